package expression_test

import (
	"reflect"
	"slices"
	"strconv"
	"strings"
	"testing"

	"confluent/api"
	"confluent/expression"
	"confluent/parser"
	"confluent/printer"
)

func parse(t *testing.T, text string) api.Node {
	t.Helper()
	n, wrong, e := parser.Expression(text)
	if e != api.OK || len(wrong) > 0 {
		t.Fatalf("%q is broken: %v, %d", text, wrong, e)
	}
	return n
}

// sorts are s, t, another s, and one without elements.
var sorts = []api.Sort{{Name: "s", Size: 2}, {Name: "t", Size: 3}, {Name: "s", Size: 2}, {Name: "e", Size: 0}}

func ints(name string, lo, hi int) api.Variable {
	return api.Variable{Name: name, Sort: api.TypeInt, Range: api.Range{Lo: lo, Hi: hi}, Value: lo}
}

func elements(name string, sort int) api.Variable { return api.Variable{Name: name, Sort: sort} }

// variables are p and q of s, u of t, w of the other s, e of the empty sort, and ints. Those behind the first with a name do not count.
var variables = []api.Variable{
	elements("p", 0), elements("q", 0), elements("u", 1), elements("w", 2), elements("e", 3),
	ints("n", 1, 3), ints("m", -2, 5), ints("k", -9999, 9999), ints("z", 0, 0), ints("h", 9999, 9999),
	elements("n", 0), ints("p", 7, 8), elements("k", 1), ints("sort", 1, 1), ints("", 1, 1),
}

func showType(kind int) string {
	switch kind {
	case api.TypeNone:
		return "none"
	case api.TypeBool:
		return "bool"
	case api.TypeInt:
		return "int"
	}
	return "sort " + strconv.Itoa(kind)
}

// showWrong writes each diagnostic as its code, its Text, At and what stands there.
func showWrong(text string, wrong []api.Diagnostic) string {
	codes := map[int]string{api.DiagUnknown: "unknown ", api.DiagType: "type", api.DiagSize: "size", api.DiagSort: "sort", api.DiagValue: "value"}
	var all []string
	for _, d := range wrong {
		all = append(all, codes[d.Code]+d.Text+" "+strconv.Itoa(d.At)+" "+text[d.At:d.End])
	}
	return strings.Join(all, " | ")
}

type checked struct{ text, kind, wrong string }

func check(t *testing.T, cases []checked) {
	t.Helper()
	for _, c := range cases {
		kind, wrong := expression.Check(parse(t, c.text), variables, sorts)
		if got := showType(kind); got != c.kind {
			t.Errorf("%q is %s, not %s", c.text, got, c.kind)
		}
		if got := showWrong(c.text, wrong); got != c.wrong {
			t.Errorf("%q has the diagnostics\n%s, not\n%s", c.text, got, c.wrong)
		}
	}
}

func TestP7_1Valid(t *testing.T) {
	for i, c := range []struct {
		variables []api.Variable
		sorts     int
		want      bool
	}{
		{nil, 0, true}, {variables, 4, true}, {variables, 3, false},
		{[]api.Variable{ints("n", 0, 0)}, 0, true}, {[]api.Variable{ints("n", 1, 0)}, 0, false},
		{[]api.Variable{ints("n", -9999, 9999)}, 0, true}, {[]api.Variable{ints("n", -10000, 0)}, 0, false}, {[]api.Variable{ints("n", 0, 10000)}, 0, false},
		{[]api.Variable{ints("n", 10000, 10000)}, 0, false}, {[]api.Variable{ints("n", -10000, -10000)}, 0, false},
		{[]api.Variable{ints("n", -1<<63, 1<<63-1)}, 0, false}, {[]api.Variable{ints("n", 1<<63-1, -1<<63)}, 0, false},
		{[]api.Variable{elements("p", 0)}, 0, false}, {[]api.Variable{elements("p", 0)}, 1, true}, {[]api.Variable{elements("p", 1)}, 1, false}, {[]api.Variable{elements("p", 3)}, 4, true},
		{[]api.Variable{elements("p", -2)}, 4, false}, {[]api.Variable{elements("p", -3)}, 4, false}, {[]api.Variable{elements("p", 1<<62)}, 4, false}, {[]api.Variable{elements("p", -1<<63)}, 4, false},
		// The Range of an element and the Value of a variable do not matter; the name does not either.
		{[]api.Variable{{Name: "p", Range: api.Range{Lo: 1}}}, 1, true}, {[]api.Variable{{Name: "p", Range: api.Range{Lo: -1 << 40, Hi: 1 << 40}, Value: -7}}, 1, true},
		{[]api.Variable{{Name: "9 or", Sort: api.TypeInt, Value: 1 << 40}}, 0, true},
		// All variables count, also those behind another one with their name.
		{[]api.Variable{ints("n", 0, 1), ints("n", 1, 0)}, 0, false}, {[]api.Variable{ints("n", 0, 1), elements("n", 1)}, 1, false}, {[]api.Variable{ints("n", 1, 0), ints("n", 0, 1)}, 0, false},
	} {
		if got := expression.Valid(c.variables, sorts[:c.sorts]); got != c.want {
			t.Errorf("%d: %v", i, got)
		}
	}
}

func TestP7_1Types(t *testing.T) {
	check(t, []checked{
		{"0", "int", ""}, {"9999", "int", ""}, {"n", "int", ""}, {"m", "int", ""}, {"k", "int", ""},
		{"p", "sort 0", ""}, {"u", "sort 1", ""}, {"w", "sort 2", ""}, {"e", "sort 3", ""},
		{"-n", "int", ""}, {"--1", "int", ""}, {"n + 1", "int", ""}, {"n - m", "int", ""}, {"n * m", "int", ""}, {"-(n + 2) * m - 1", "int", ""},
		{"n < 1", "bool", ""}, {"n <= m", "bool", ""}, {"n > -m", "bool", ""}, {"n >= m * 2", "bool", ""}, {"n == 1", "bool", ""}, {"1 == 2", "bool", ""}, {"n != m + 1", "bool", ""},
		{"p == q", "bool", ""}, {"p != q", "bool", ""}, {"p == p", "bool", ""}, {"u == u", "bool", ""}, {"e == e", "bool", ""},
		{"p == 0", "bool", ""}, {"p == 1", "bool", ""}, {"1 == p", "bool", ""}, {"p != 1", "bool", ""}, {"0 != u", "bool", ""}, {"u == 2", "bool", ""}, {"2 == u", "bool", ""},
		{"not p == 1", "bool", ""}, {"n < 1 and m < 2", "bool", ""}, {"n < 1 or p == q", "bool", ""}, {"not (not n < 1 and (m < n or p == 0))", "bool", ""},
		{"p == 1 and 2 * n - 1 > n", "bool", ""},
	})
}

func TestP7_1Wrong(t *testing.T) {
	check(t, []checked{
		{"x", "none", "unknown x 0 x"}, {"x + y", "none", "unknown x 0 x | unknown y 4 y"}, {"x == y", "none", "unknown x 0 x | unknown y 5 y"}, {"not x", "none", "unknown x 4 x"},
		{"-p", "none", "type 1 p"}, {"-(n < 1)", "none", "type 2 n < 1"}, {"p + 1", "none", "type 0 p"}, {"1 - p", "none", "type 4 p"}, {"p * q", "none", "type 0 p | type 4 q"}, {"(n < 1) + u", "none", "type 1 n < 1 | type 10 u"},
		{"not n", "none", "type 4 n"}, {"not p", "none", "type 4 p"}, {"n and m < 1", "none", "type 0 n"}, {"m < 1 or p", "none", "type 9 p"}, {"1 or p", "none", "type 0 1 | type 5 p"}, {"0 and 1", "none", "type 0 0 | type 6 1"},
		{"p < 1", "none", "type 0 p"}, {"1 <= p", "none", "type 5 p"}, {"p > q", "none", "type 0 p | type 4 q"}, {"(n < 1) >= (n > 1)", "none", "type 1 n < 1 | type 12 n > 1"},
		// == and != are reported at the node itself.
		{"p == 2", "none", "size 0 p == 2"}, {"2 != p", "none", "size 0 2 != p"}, {"u == 3", "none", "size 0 u == 3"}, {"u == 9999", "none", "size 0 u == 9999"}, {"e == 0", "none", "size 0 e == 0"}, {"0 == e", "none", "size 0 0 == e"},
		{"p == u", "none", "sort 0 p == u"}, {"u != p", "none", "sort 0 u != p"}, {"p == w", "none", "sort 0 p == w"}, {"w == p", "none", "sort 0 w == p"},
		{"p == n", "none", "type 0 p == n"}, {"n == p", "none", "type 0 n == p"}, {"p == 0 + 1", "none", "type 0 p == 0 + 1"}, {"p == -1", "none", "type 0 p == -1"}, {"-1 == p", "none", "type 0 -1 == p"}, {"p != z", "none", "type 0 p != z"},
		{"(n < 1) == (m < 1)", "none", "type 0 (n < 1) == (m < 1)"}, {"(n < 1) == 1", "none", "type 0 (n < 1) == 1"}, {"0 == (n < 1)", "none", "type 0 0 == (n < 1)"}, {"(n < 1) != p", "none", "type 0 (n < 1) != p"}, {"u == (n < 1)", "none", "type 0 u == (n < 1)"},
	})
}

// An operand in which something is wrong is not reported again, but the other one is; the diagnostics stand in the order of their nodes.
func TestP7_1Order(t *testing.T) {
	check(t, []checked{
		{"x + p", "none", "unknown x 0 x | type 4 p"}, {"p + x", "none", "type 0 p | unknown x 4 x"}, {"(p == 1) + (1 + x)", "none", "type 1 p == 1 | unknown x 16 x"}, {"(1 + x) + (p == 1)", "none", "unknown x 5 x | type 11 p == 1"},
		{"x == p", "none", "unknown x 0 x"}, {"p != -q", "none", "type 6 q"}, {"(p == 2) == 1", "none", "size 1 p == 2"},
		{"not x and 1", "none", "unknown x 4 x | type 10 1"}, {"1 and not x", "none", "type 0 1 | unknown x 10 x"}, {"not (p and q) or p == u", "none", "type 5 p | type 11 q | sort 17 p == u"},
		{"1 and (2 and (3 and x))", "none", "type 0 1 | type 7 2 | type 14 3 | unknown x 20 x"}, {"((x and 3) and 2) and 1", "none", "unknown x 2 x | type 8 3 | type 15 2 | type 22 1"},
		{"-(p + q) * (n + u) - (p + 1)", "none", "type 2 p | type 6 q | type 16 u | type 22 p"}, {"(n < p) + (h * h - u)", "none", "type 5 p | value 11 h * h | type 19 u"},
		{"(p == 3) and (u == p) and (n == u) and 1000 * k < x", "none", "size 1 p == 3 | sort 14 u == p | type 27 n == u | value 39 1000 * k | unknown x 50 x"},
	})
}

func TestP7_1Value(t *testing.T) {
	check(t, []checked{
		{"1000 * 1000", "int", ""}, {"1000 * 1000 * 1", "int", ""}, {"-(1000 * 1000)", "int", ""}, {"1000 * 1000 + 0", "int", ""}, {"1000 * 1000 - 1 + 1", "int", ""},
		{"1000 * 1000 + 1", "none", "value 0 1000 * 1000 + 1"}, {"0 - 1000 * 1000 - 1", "none", "value 0 0 - 1000 * 1000 - 1"}, {"1000 * 1001", "none", "value 0 1000 * 1001"}, {"-1001 * 1000", "none", "value 0 -1001 * 1000"},
		{"1000 * 1000 * n", "none", "value 0 1000 * 1000 * n"}, {"100 * k", "int", ""}, {"101 * k", "none", "value 0 101 * k"}, {"k * k", "none", "value 0 k * k"}, {"z * k", "int", ""}, {"h * h", "none", "value 0 h * h"}, {"h * 100", "int", ""},
		{"n * 250 * 1000 + 250 * 1000", "int", ""}, {"n * 250 * 1000 + 250 * 1000 + n", "none", "value 0 n * 250 * 1000 + 250 * 1000 + n"}, {"-(k * k)", "none", "value 2 k * k"}, {"(k * k) - (h * h)", "none", "value 1 k * k | value 11 h * h"},
		{"k * k + p", "none", "value 0 k * k | type 8 p"}, {"k * k < 1", "none", "value 0 k * k"}, {"k * k == p", "none", "value 0 k * k"}, {"z * (k * k)", "none", "value 5 k * k"}, {"1000 * 1000 * 2 - 1000 * 1000", "none", "value 0 1000 * 1000 * 2"},
	})
}

// leaf returns a node without Kids.
func leaf(kind int, text string) api.Node { return api.Node{Kind: kind, Text: text} }

// broken returns trees that have not the shape of an expression.
func broken() []api.Node {
	hole, _, _ := parser.Expression("1 + ")
	program, _, _ := parser.Parse("sort s 2;")
	n := leaf(api.NodeName, "n")
	return []api.Node{{}, hole, program, leaf(-1, "n"), leaf(99, "n"), leaf(api.NodeNone, ""), leaf(api.NodeInteger, "1"), leaf(api.NodeName, ""), leaf(api.NodeName, "sort"), leaf(api.NodeNumber, "01"), leaf(api.NodeNumber, "10000"),
		{Kind: api.NodeName, Text: "n", Kids: []api.Node{n}}, {Kind: api.NodeUnary, Text: "-"}, {Kind: api.NodeUnary, Text: "+", Kids: []api.Node{n}}, {Kind: api.NodeUnary, Text: "-", Kids: []api.Node{n, n}},
		{Kind: api.NodeBinary, Text: "-", Kids: []api.Node{n}}, {Kind: api.NodeBinary, Text: "not", Kids: []api.Node{n, n}}, {Kind: api.NodeBinary, Text: "+", Kids: []api.Node{n, {}}}, {Kind: api.NodeBinary, Text: "", Kids: []api.Node{n, n}}}
}

func TestP7_1Invalid(t *testing.T) {
	for i, n := range broken() {
		if kind, wrong := expression.Check(n, variables, sorts); kind != api.TypeNone || len(wrong) > 0 {
			t.Errorf("tree %d: %d %v", i, kind, wrong)
		}
		if r, ok := expression.Interval(n, variables, sorts); r != (api.Range{}) || ok {
			t.Errorf("tree %d: %v %v", i, r, ok)
		}
		if v, e := expression.Evaluate(n, variables, sorts); v != 0 || e != api.ErrArg {
			t.Errorf("tree %d: %d %d", i, v, e)
		}
	}
	for _, text := range []string{"1", "n", "x", "n + p", "n < 1"} {
		n := parse(t, text)
		for i, wrong := range [][]api.Variable{{elements("p", 4)}, {ints("n", 1, 3), ints("m", 1, 0)}, {ints("n", 1, 10000)}} {
			if kind, l := expression.Check(n, wrong, sorts); kind != api.TypeNone || len(l) > 0 {
				t.Errorf("%q %d: %d %v", text, i, kind, l)
			}
			if r, ok := expression.Interval(n, wrong, sorts); r != (api.Range{}) || ok {
				t.Errorf("%q %d: %v %v", text, i, r, ok)
			}
			if v, e := expression.Evaluate(n, wrong, sorts); v != 0 || e != api.ErrArg {
				t.Errorf("%q %d: %d %d", text, i, v, e)
			}
		}
	}
}

func TestP7_2Interval(t *testing.T) {
	for _, c := range []struct {
		text   string
		lo, hi int
	}{
		{"0", 0, 0}, {"7", 7, 7}, {"9999", 9999, 9999}, {"n", 1, 3}, {"m", -2, 5}, {"k", -9999, 9999}, {"(n)", 1, 3},
		{"-7", -7, -7}, {"-n", -3, -1}, {"-m", -5, 2}, {"--m", -2, 5},
		{"n + 1", 2, 4}, {"n + m", -1, 8}, {"m + m", -4, 10}, {"n - m", -4, 5}, {"m - n", -5, 4}, {"n - n", -2, 2}, {"1 - n", -2, 0},
		{"n * m", -6, 15}, {"m * m", -10, 25}, {"-m * m", -25, 10}, {"-n * m", -15, 6}, {"m * 0", 0, 0}, {"z * k", 0, 0}, {"-n * -n", 1, 9}, {"2 * n - 1", 1, 5}, {"(m - 3) * (n - 4)", -6, 15},
		{"100 * k", -999900, 999900}, {"1000 * 1000", 1000000, 1000000}, {"-(1000 * 1000)", -1000000, -1000000},
	} {
		if r, ok := expression.Interval(parse(t, c.text), variables, sorts); r != (api.Range{Lo: c.lo, Hi: c.hi}) || !ok {
			t.Errorf("%q: %v %v", c.text, r, ok)
		}
	}
	for _, text := range []string{"p", "u", "e", "x", "n < 1", "p == q", "not n < 1", "n + p", "p + n", "n + x", "101 * k", "101 * k - 101 * k", "-(n < 1)", "not 1"} {
		if r, ok := expression.Interval(parse(t, text), variables, sorts); r != (api.Range{}) || ok {
			t.Errorf("%q: %v %v", text, r, ok)
		}
	}
	ranged := []api.Variable{{Name: "p", Range: api.Range{Lo: 1, Hi: 2}}}
	if r, ok := expression.Interval(parse(t, "p"), ranged, sorts); r != (api.Range{}) || ok {
		t.Errorf("an element has the interval %v %v", r, ok)
	}
}

func TestP7_3Evaluate(t *testing.T) {
	names := strings.Fields("p q u n m k")
	for _, c := range []struct {
		text   string
		values []int
		want   int
	}{
		{"7", nil, 7}, {"p", []int{1}, 1}, {"u", []int{0, 0, 2}, 2}, {"n", []int{0, 0, 0, 3}, 3}, {"m", []int{0, 0, 0, 1, -2}, -2}, {"k", []int{0, 0, 0, 1, 0, -9999}, -9999},
		{"-n", []int{0, 0, 0, 2}, -2}, {"n + m", []int{0, 0, 0, 3, 4}, 7}, {"n - m", []int{0, 0, 0, 1, 5}, -4}, {"n * m", []int{0, 0, 0, 3, -2}, -6}, {"n - 1 - 1", []int{0, 0, 0, 1}, -1}, {"2 - (n - m) * 3", []int{0, 0, 0, 1, 2}, 5},
		{"n < m", []int{0, 0, 0, 2, 3}, 1}, {"n < m", []int{0, 0, 0, 2, 2}, 0}, {"n < m", []int{0, 0, 0, 2, 1}, 0},
		{"n <= m", []int{0, 0, 0, 2, 3}, 1}, {"n <= m", []int{0, 0, 0, 2, 2}, 1}, {"n <= m", []int{0, 0, 0, 2, 1}, 0},
		{"n > m", []int{0, 0, 0, 2, 3}, 0}, {"n > m", []int{0, 0, 0, 2, 2}, 0}, {"n > m", []int{0, 0, 0, 2, 1}, 1},
		{"n >= m", []int{0, 0, 0, 2, 3}, 0}, {"n >= m", []int{0, 0, 0, 2, 2}, 1}, {"n >= m", []int{0, 0, 0, 2, 1}, 1},
		{"n == m", []int{0, 0, 0, 2, 2}, 1}, {"n == m", []int{0, 0, 0, 2, 3}, 0}, {"n != m", []int{0, 0, 0, 2, 2}, 0}, {"n != m", []int{0, 0, 0, 2, 3}, 1},
		{"p == q", []int{1, 1}, 1}, {"p == q", []int{1, 0}, 0}, {"p != q", []int{1, 0}, 1}, {"p == 1", []int{1}, 1}, {"1 == p", []int{0}, 0}, {"u != 2", []int{0, 0, 2}, 0},
		{"p == 1 and q == 1", []int{0, 0}, 0}, {"p == 1 and q == 1", []int{0, 1}, 0}, {"p == 1 and q == 1", []int{1, 0}, 0}, {"p == 1 and q == 1", []int{1, 1}, 1},
		{"p == 1 or q == 1", []int{0, 0}, 0}, {"p == 1 or q == 1", []int{0, 1}, 1}, {"p == 1 or q == 1", []int{1, 0}, 1}, {"p == 1 or q == 1", []int{1, 1}, 1},
		{"not p == 1", []int{0}, 1}, {"not p == 1", []int{1}, 0}, {"not not p == 1", []int{1}, 1},
		{"p == 1 and 2 * n - 1 > n", []int{1, 0, 0, 2}, 1}, {"p == 1 and 2 * n - 1 > n", []int{1, 0, 0, 1}, 0},
		{"100 * k", []int{0, 0, 0, 1, 0, 9999}, 999900}, {"1000 * 1000", nil, 1000000}, {"-(1000 * 1000)", nil, -1000000},
	} {
		l := expression.Bind(variables, make([]int, len(variables)))
		for i, value := range c.values {
			l[slices.IndexFunc(l, func(v api.Variable) bool { return v.Name == names[i] })].Value = value
		}
		if got, e := expression.Evaluate(parse(t, c.text), l, sorts); got != c.want || e != api.OK {
			t.Errorf("%q for %v is %d, %d, not %d", c.text, c.values, got, e, c.want)
		}
	}
}

func TestP7_3EvaluateErrors(t *testing.T) {
	for _, c := range []struct {
		text, name string
		value      int
		want       api.Errno
	}{
		{"x", "n", 1, api.ErrType}, {"n + p", "n", 1, api.ErrType}, {"n + p", "n", 99, api.ErrType}, {"p == 2", "p", 5, api.ErrType}, {"k * k", "k", 0, api.ErrType}, {"z * (k * k)", "k", 0, api.ErrType},
		{"n", "n", 0, api.ErrRange}, {"n", "n", 1, api.OK}, {"n", "n", 3, api.OK}, {"n", "n", 4, api.ErrRange}, {"m", "m", -3, api.ErrRange}, {"m", "m", 6, api.ErrRange}, {"k", "k", 1 << 40, api.ErrRange},
		{"p", "p", -1, api.ErrRange}, {"p", "p", 0, api.OK}, {"p", "p", 1, api.OK}, {"p", "p", 2, api.ErrRange}, {"u", "u", 2, api.OK}, {"u", "u", 3, api.ErrRange}, {"u", "u", -1 << 63, api.ErrRange}, {"e", "e", 0, api.ErrRange}, {"e", "e", -1, api.ErrRange},
		// A value of a variable that is not named does not matter; that of one that is named does, wherever this stands.
		{"n + 1", "m", 99, api.OK}, {"1 < 2", "n", 99, api.OK}, {"1 < 2 or n < 1", "n", 99, api.ErrRange}, {"2 < 1 and p == 0", "p", 2, api.ErrRange}, {"0 * n", "n", 0, api.ErrRange}, {"m - m", "m", 6, api.ErrRange},
	} {
		l := slices.Clone(variables)
		for i := range l {
			l[i].Value = l[i].Range.Lo
		}
		l[slices.IndexFunc(l, func(v api.Variable) bool { return v.Name == c.name })].Value = c.value
		if got, e := expression.Evaluate(parse(t, c.text), l, sorts); e != c.want || (e != api.OK && got != 0) {
			t.Errorf("%q for %s = %d: %d, %d", c.text, c.name, c.value, got, e)
		}
	}
	// Of several variables with one name the first one counts, whatever the Values of the others are.
	l := []api.Variable{ints("n", 1, 3), ints("n", 5, 6), elements("n", 0)}
	l[1].Value, l[2].Value = 99, 99
	if got, e := expression.Evaluate(parse(t, "n + 1"), l, sorts); got != 2 || e != api.OK {
		t.Error(got, e)
	}
	l[0], l[1] = l[1], l[0]
	if got, e := expression.Evaluate(parse(t, "n + 1"), l, sorts); got != 0 || e != api.ErrRange {
		t.Error(got, e)
	}
	// The error that is named first is returned.
	l = []api.Variable{ints("n", 1, 0)}
	if got, e := expression.Evaluate(parse(t, "x"), l, sorts); got != 0 || e != api.ErrArg {
		t.Error(got, e)
	}
}

func TestP7_3Bind(t *testing.T) {
	l := []api.Variable{{Name: "a", Sort: 3, Range: api.Range{Lo: 4, Hi: 2}, Value: 9}, {Name: "a", Sort: -5, Value: -1}, {Value: 7}}
	before := slices.Clone(l)
	for _, c := range []struct{ values, want []int }{{nil, []int{0, 0, 0}}, {[]int{5}, []int{5, 0, 0}}, {[]int{5, -6, 1 << 40}, []int{5, -6, 1 << 40}}, {[]int{1, 2, 3, 4}, []int{1, 2, 3}}} {
		got := expression.Bind(l, c.values)
		if len(got) != len(l) {
			t.Fatal(got)
		}
		for i, v := range got {
			want := l[i]
			want.Value = c.want[i]
			if v != want {
				t.Errorf("%v: %v, not %v", c.values, v, want)
			}
			got[i].Name = "changed"
		}
		if !slices.Equal(l, before) {
			t.Fatal(l)
		}
	}
	if got := expression.Bind(nil, []int{1}); len(got) > 0 {
		t.Error(got)
	}
}

func TestP1ArgumentsStay(t *testing.T) {
	n := parse(t, "not (p == 1 and 2 * n - 1 > n) or x + p < 101 * k")
	tree, _, _ := parser.Expression("not (p == 1 and 2 * n - 1 > n) or x + p < 101 * k")
	l, s := slices.Clone(variables), slices.Clone(sorts)
	first, wrong := expression.Check(n, l, s)
	expression.Interval(n, l, s)
	expression.Evaluate(n, l, s)
	second, again := expression.Check(n, l, s)
	if !reflect.DeepEqual(n, tree) || !slices.Equal(l, variables) || !slices.Equal(s, sorts) || first != second || !slices.Equal(wrong, again) {
		t.Error(n, l, s, wrong, again)
	}
	wrong[0].Code = 99
	if again[0].Code == 99 {
		t.Error("results share memory")
	}
}

// deep returns an expression of so many levels whose operators are and, with a wrong operand each if that is wanted.
func deep(levels int, wrong bool) api.Node {
	operand := api.Node{Kind: api.NodeBinary, Text: "<", Kids: []api.Node{leaf(api.NodeNumber, "1"), leaf(api.NodeNumber, "2")}}
	n := operand
	if wrong {
		operand = leaf(api.NodeNumber, "1")
	}
	for range levels {
		n = api.Node{Kind: api.NodeBinary, Text: "and", Kids: []api.Node{operand, n}}
	}
	return n
}

func TestP1Deep(t *testing.T) {
	const levels = 1 << 16
	n := deep(levels, false)
	if kind, wrong := expression.Check(n, nil, nil); kind != api.TypeBool || len(wrong) > 0 {
		t.Error(kind, wrong)
	}
	if v, e := expression.Evaluate(n, nil, nil); v != 1 || e != api.OK {
		t.Error(v, e)
	}
	n = deep(levels, true)
	if kind, wrong := expression.Check(n, nil, nil); kind != api.TypeNone || len(wrong) != levels {
		t.Error(kind, len(wrong))
	}
	if v, e := expression.Evaluate(n, nil, nil); v != 0 || e != api.ErrType {
		t.Error(v, e)
	}
}

// rewritten returns the tree of the canonical text of an expression.
func rewritten(t *testing.T, n api.Node) api.Node {
	t.Helper()
	text, e := printer.Expression(n)
	if e != api.OK {
		t.Fatal(e)
	}
	return parse(t, text)
}
