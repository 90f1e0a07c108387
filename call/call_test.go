package call_test

import (
	"fmt"
	"regexp"
	"slices"
	"strconv"
	"strings"
	"testing"

	"confluent/api"
	"confluent/call"
	"confluent/lexer"
)

func TestFormat(t *testing.T) {
	for want, integers := range map[string][]int{"c()": nil, "c(0)": {0}, "c(0, 1)": {0, 1}, "c(-2, 9999, -0)": {-2, 9999, 0}} {
		want = strings.Replace(want, "-0", "0", 1)
		if got := call.Format("c", integers...); got != want {
			t.Errorf("%q, not %q", got, want)
		}
	}
}

var (
	numbersForm  = regexp.MustCompile(`^([a-z][a-z0-9_]*) \( (?:([0-9]+(?: , [0-9]+)*) )?\)$`)
	integersForm = regexp.MustCompile(`^([a-z][a-z0-9_]*) \( (?:((?:- )?[0-9]+(?: , (?:- )?[0-9]+)*) )?\)$`)
)

// defined reads a text by a regular expression for its words with blanks between them.
func defined(text string, form *regexp.Regexp) (string, []int, bool) {
	parts := form.FindStringSubmatch(strings.Join(lexer.Words(text), " "))
	if parts == nil || lexer.Kind(parts[1]) == api.TokenKeyword {
		return "", nil, false
	}
	var values []int
	for _, part := range strings.FieldsFunc(parts[2], func(r rune) bool { return r == ',' }) {
		part = strings.ReplaceAll(part, " ", "")
		digits := strings.TrimPrefix(part, "-")
		value, _ := strconv.Atoi(digits)
		if len(digits) > 4 {
			value = api.MaxNumber + 1
		}
		if digits != part {
			value = -value
		}
		values = append(values, value)
	}
	return parts[1], values, true
}

// texts returns all short sequences of some words, and texts for single rules.
func texts() []string {
	words := []string{"c", "(", ")", ",", "1", "-", "sort", "x2 (", "04", "12345", "A"}
	all, last := []string{""}, []string{""}
	for range 5 {
		var next []string
		for _, text := range last {
			for _, word := range words {
				next = append(next, text+word+" ")
			}
		}
		all, last = append(all, next...), next
	}
	for _, text := range slices.Clone(all) {
		all = append(all, "c("+text+")")
	}
	long := "c(" + strings.Repeat("1,", 2000) + "1)"
	return append(all, "c(1)", "c (1,\n2#x)\n,3)#", "c(1)(2)", "c(1..2)", "c(1.)", "C(1)", "c(a)", "c[1]", "c(1))", "c((1))", "c(,1)", "c(--1)", "c(+1)", "c(-)", "c(1 2)", "c(1,-2)", "c(-12345, -0)", "a_name_of_more_than_16(1)", "for(1)", "or()", "c(99999999999999999999999999)", "c(0000)", "c(00000)", "\xff(1)",
		long, long+strings.Repeat(" ", api.MaxSource-len(long)), long+strings.Repeat(" ", api.MaxSource+1-len(long)), "c()"+strings.Repeat(" ", api.MaxSource))
}

func TestRead(t *testing.T) {
	read := 0
	for _, text := range texts() {
		name, values, ok := call.Numbers(text)
		wantName, wantValues, want := defined(text, numbersForm)
		if name != wantName || !slices.Equal(values, wantValues) || ok != want {
			t.Fatalf("the numbers of %q are %q %v %v, not %q %v %v", text, name, values, ok, wantName, wantValues, want)
		}
		name, values, ok = call.Integers(text)
		wantName, wantValues, want = defined(text, integersForm)
		if name != wantName || !slices.Equal(values, wantValues) || ok != want {
			t.Fatalf("the integers of %q are %q %v %v, not %q %v %v", text, name, values, ok, wantName, wantValues, want)
		}
		if ok {
			read++
		}
	}
	if read < 100 {
		t.Error("only", read, "texts have the form")
	}
}

func TestReadExamples(t *testing.T) {
	for text, want := range map[string]string{
		"r ( 1,02 )": "r[1 2]", "o(0, -2)": "o[0 -2]", "o(- # a comment\n0002)": "o[-2]", "o()": "o[]", "o(12345, -12345)": "o[10000 -10000]", "sort(1)": "[]", "o(1,)": "[]", "o(1": "[]", "o": "[]", "": "[]",
	} {
		name, values, ok := call.Integers(text)
		if got := name + fmt.Sprint(values); got != want || ok != (name != "") {
			t.Errorf("%q: %s %v, not %s", text, got, ok, want)
		}
	}
}

func TestReader(t *testing.T) {
	r := call.NewReader("c(1,\n02) = - 3 ; o(-1) 7 x # end")
	if name, values, ok := r.Numbers(); name != "c" || !slices.Equal(values, []int{1, 2}) || !ok || r.Done() {
		t.Error(name, values, ok)
	}
	if r.Take(";") || r.Take("") || !r.Take("=") || r.Take("=") {
		t.Error("words are taken that are not next")
	}
	if value, ok := r.Integer(); value != -3 || !ok || !r.Take(";") {
		t.Error(value, ok)
	}
	if name, values, ok := r.Integers(); name != "o" || !slices.Equal(values, []int{-1}) || !ok {
		t.Error(name, values, ok)
	}
	if value, ok := r.Integer(); value != 7 || !ok || r.Done() {
		t.Error(value, ok)
	}
	if value, ok := r.Integer(); value != 0 || ok || !r.Done() {
		t.Error(value, ok)
	}
	if name, values, ok := r.Numbers(); name != "" || len(values) > 0 || ok || r.Take("") || r.Take("x") {
		t.Error(name, values, ok)
	}
	if _, ok := r.Integer(); ok || !call.NewReader("").Done() || !call.NewReader(" # nothing").Done() {
		t.Error("something is read behind the end")
	}
}

func TestReaderNumbers(t *testing.T) {
	for text, want := range map[string]string{"12345": "10000 true", "-12345": "-10000 true", "- 9999": "-9999 true", "0007": "7 true", "-": "0 false", "x": "0 false", "--1": "0 false", "": "0 false", ".": "0 false"} {
		if value, ok := call.NewReader(text).Integer(); fmt.Sprint(value, ok) != want {
			t.Errorf("%q: %d %v", text, value, ok)
		}
	}
}
