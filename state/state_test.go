package state_test

import (
	"fmt"
	"math/rand"
	"reflect"
	"slices"
	"strings"
	"testing"

	"confluent/api"
	"confluent/cells"
	"confluent/checker"
	"confluent/constraint"
	"confluent/effect"
	"confluent/model"
	"confluent/state"
)

const (
	chapter = "sort s 2; relation r(a: s); counter c() in 1..3; invariant i: all() sum(x: s) r(x) - c() <= 0;"
	// The strict cells are u 0 to 2, r 3 to 8, c 9 and 10, v 11 and 12, e 13 to 16, d 17, k 18.
	wide = "sort t 3; relation u(x: t); set m(a: t) addwins; sort s 2; relation r(a: s, b: t); counter c(a: s) in -9..-2; register g() in -3..3 last; relation v(x: s); relation e(a: s, b: s); counter d() in 4..7; counter k() in -5..5; " +
		"invariant few: count r(a) <= 2; invariant order: acyclic e; invariant room: all(x: t) 2 * u(x) - k() <= 3; invariant one: reference r(b) to u;"
	// The strict cells are r 0 to 3, u 4 and 5, v 6 and 7, w 8 and 9, x 10 to 12, c 13 and 14, free 15 and 16. Tuples of r need one of u and one of v, those of v one of w, and those of w one of u.
	hiding = "sort s 2; relation r(a: s, b: s); relation u(a: s); relation v(a: s); relation w(a: s); sort t 3; relation x(a: t); counter c(a: s) in -2..2; relation free(a: s); " +
		"invariant i: reference v(a) to w hide; invariant j: reference r(b) to u hide; invariant k: reference w(a) to u hide; invariant l: reference r(a) to v hide; invariant m: reference free(a) to u;"
)

func of(t *testing.T, text string) api.Model {
	t.Helper()
	p, wrong, e := checker.Check(text)
	if e != api.OK || len(wrong) > 0 {
		t.Fatalf("%s is not accepted: %v, %d", text, wrong, e)
	}
	m, e := model.Of(p)
	if e != api.OK {
		t.Fatal(text, e)
	}
	return m
}

// broken returns models that are not valid.
func broken(t *testing.T) []api.Model {
	sizes, family, effects := of(t, chapter), of(t, chapter), of(t, chapter+" operation o() { }")
	sizes.Sorts[0] = 7
	family.Constraints[6].Family = 3
	effects.Actions[0].Effect.Delta = []api.Change{{Cell: 3, Add: 1}}
	return []api.Model{sizes, family, effects, {Families: []string{""}}}
}

func TestP14_1Chapter(t *testing.T) {
	m := of(t, chapter)
	if got := state.Initial(m); !slices.Equal(got, []int{0, 0, 1}) {
		t.Error(got)
	}
	if got := state.Violated(m, []int{1, 1, 1}); !slices.Equal(got, []int{6}) || state.Valid(m, []int{1, 1, 1}) || !state.Valid(m, []int{1, 0, 1}) {
		t.Error(got)
	}
	if text, e := state.Format(m, []int{1, 0, 2}); text != "r(0) = 1;\nc() = 2;\n" || e != api.OK {
		t.Errorf("%q, %d", text, e)
	}
}

func TestP14_1Initial(t *testing.T) {
	for text, want := range map[string][]int{
		"": nil, "set m() addwins; register g() in 3..4 last;": nil,
		wide: {0, 0, 0, 0, 0, 0, 0, 0, 0, -2, -2, 0, 0, 0, 0, 0, 0, 4, 0},
		"counter a() in 0..9; counter b() in -9..0; counter c() in 1..1; counter d() in -1..-1; counter e() in -9999..9999; counter f() in 9999..9999; counter g() in -9999..-9999; counter h() in 0..0; counter i() in -1..1;": {0, 0, 1, -1, 0, 9999, -9999, 0, 0},
	} {
		if got := state.Initial(of(t, text)); !slices.Equal(got, want) {
			t.Errorf("%s: %v, not %v", text, got, want)
		}
	}
	for i, m := range broken(t) {
		if got := state.Initial(m); len(got) > 0 {
			t.Errorf("%d: %v", i, got)
		}
	}
	// The initial state is in the ranges, but other constraints do not have to hold in it.
	m := of(t, "counter c() in 0..3; invariant i: all() c() >= 2;")
	if state.Valid(m, state.Initial(m)) || !slices.Equal(state.Violated(m, state.Initial(m)), []int{2}) {
		t.Error("the initial state is valid")
	}
}

// some returns a random list with a value for each cell, in its range but for a few.
func some(random *rand.Rand, m api.Model) []int {
	var list []int
	for _, r := range model.Strict(m) {
		value := r.Lo + random.Intn(r.Hi-r.Lo+1)
		if random.Intn(60) == 0 {
			value = r.Lo - 1 + (r.Hi-r.Lo+2)*random.Intn(2)
		}
		if random.Intn(3) == 0 {
			value = max(r.Lo, min(r.Hi, 0))
		}
		list = append(list, value)
	}
	return list
}

// violated returns the indices of the constraints of wide that do not hold, by their meaning.
func violated(list []int) []int {
	var all []int
	index := 0
	note := func(holds bool) {
		if !holds {
			all = append(all, index)
		}
		index++
	}
	for cell, value := range list {
		lo, hi := 0, 1
		switch cell {
		case 9, 10:
			lo, hi = -9, -2
		case 17:
			lo, hi = 4, 7
		case 18:
			lo, hi = -5, 5
		}
		note(value >= lo)
		note(value <= hi)
	}
	note(list[3]+list[4]+list[5] <= 2)
	note(list[6]+list[7]+list[8] <= 2)
	note(list[13] < 1 && list[16] < 1 && (list[14] < 1 || list[15] < 1))
	for x := range 3 {
		note(2*list[x]-list[18] <= 3)
	}
	for cell := 3; cell <= 8; cell++ {
		note(list[cell] <= list[cell%3])
	}
	return all
}

func TestP14_1Random(t *testing.T) {
	m := of(t, wide)
	random := rand.New(rand.NewSource(1))
	seen := map[int]int{}
	for range 3000 {
		list := some(random, m)
		want := violated(list)
		if got := state.Violated(m, list); !slices.Equal(got, want) {
			t.Fatalf("%v violates %v, not %v", list, got, want)
		}
		if got := state.Valid(m, list); got != (len(want) == 0) {
			t.Fatalf("%v is valid: %v", list, got)
		}
		seen[min(len(want), 4)]++
		for _, index := range want {
			seen[100+index]++
		}
	}
	for count := range 5 {
		if seen[count] < 20 {
			t.Error("the random states are too similar:", seen)
		}
	}
	for index := range m.Constraints {
		if seen[100+index] == 0 {
			t.Error("no random state violates", index)
		}
	}
}

func TestP14_1Strangers(t *testing.T) {
	m := of(t, chapter)
	for _, list := range [][]int{nil, {0, 0}, {0, 0, 1, 0}, {1, 1, 1, 1}} {
		if state.Valid(m, list) || len(state.Violated(m, list)) > 0 || len(state.Visible(m, list)) > 0 {
			t.Errorf("%v is a state", list)
		}
		if text, e := state.Format(m, list); text != "" || e != api.ErrArg {
			t.Errorf("%v: %q, %d", list, text, e)
		}
	}
	for i, m := range broken(t) {
		for _, list := range [][]int{nil, {0, 0, 1}, {1, 1, 1}} {
			if state.Valid(m, list) || len(state.Violated(m, list)) > 0 || len(state.Visible(m, list)) > 0 {
				t.Errorf("%v is a state of %d", list, i)
			}
			if text, e := state.Format(m, list); text != "" || e != api.ErrArg {
				t.Errorf("%d %v: %q, %d", i, list, text, e)
			}
		}
	}
	// A model without strict cells has one state.
	for _, text := range []string{"", "set m() addwins;"} {
		m := of(t, text)
		if !state.Valid(m, nil) || !state.Valid(m, []int{}) || state.Valid(m, []int{0}) {
			t.Errorf("%q has not one state", text)
		}
	}
	// Values can be any ints.
	for _, value := range []int{-1 << 63, 1<<63 - 1} {
		if got := state.Violated(m, []int{0, 0, value}); len(got) == 0 || state.Valid(m, []int{0, 0, value}) {
			t.Error(value, got)
		}
	}
	if got := state.Violated(m, []int{1<<63 - 1, 1<<63 - 1, 3}); !slices.Equal(got, []int{1, 3, 6}) {
		t.Error(got)
	}
}

func TestP14_2Apply(t *testing.T) {
	for i, c := range []struct {
		list  []int
		delta []api.Change
		want  []int
	}{
		{nil, nil, nil}, {[]int{3, 4}, nil, []int{3, 4}}, {nil, []api.Change{{Cell: 0, Add: 1}}, nil},
		{[]int{3, 4, 5}, []api.Change{{Cell: 1, Add: 2}}, []int{3, 6, 5}}, {[]int{3, 4, 5}, []api.Change{{Cell: 0, Add: -4}, {Cell: 2, Add: 7}}, []int{-1, 4, 12}},
		{[]int{3, 4}, []api.Change{{Cell: 1, Add: 2}, {Cell: 0, Add: 5}, {Cell: 1, Add: -3}, {Cell: 1, Add: 0}}, []int{8, 3}},
		{[]int{3, 4}, []api.Change{{Cell: 2, Add: 1}, {Cell: 1, Add: 1}, {Cell: -1, Add: 1}, {Cell: 1 << 62, Add: 1}, {Cell: -1 << 63, Add: 1}}, []int{3, 5}},
		{[]int{1<<63 - 1}, []api.Change{{Cell: 0, Add: 1}}, []int{-1 << 63}},
	} {
		if got := state.Apply(c.list, c.delta); !slices.Equal(got, c.want) {
			t.Errorf("%d: %v, not %v", i, got, c.want)
		}
	}
}

// seen reports by the definition whether a cell of hiding is visible.
func seen(list []int, cell int) bool {
	if list[cell] < 1 {
		return false
	}
	switch {
	case cell < 4:
		return seen(list, 4+cell%2) && seen(list, 6+cell/2)
	case cell == 6 || cell == 7:
		return seen(list, cell+2)
	case cell == 8 || cell == 9:
		return seen(list, cell-4)
	}
	return true
}

func TestP14_3Visible(t *testing.T) {
	m := of(t, hiding)
	random := rand.New(rand.NewSource(2))
	counts := map[string]int{}
	for range 2000 {
		list := make([]int, 17)
		for i := range list {
			list[i] = max(0, 2-random.Intn(5)) - random.Intn(2)*random.Intn(2)
			if list[i] < 1 && random.Intn(2) == 0 {
				list[i] = 1
			}
		}
		got := state.Visible(m, list)
		if len(got) != 17 {
			t.Fatal(got)
		}
		for cell, visible := range got {
			if want := seen(list, cell); visible != want {
				t.Fatalf("%d is visible in %v: %v", cell, list, visible)
			}
			counts[fmt.Sprint(cell, list[cell] >= 1, visible)]++
		}
	}
	for cell := range 17 {
		hidden := cell < 4 || cell >= 6 && cell <= 9
		if counts[fmt.Sprint(cell, true, true)] < 30 || counts[fmt.Sprint(cell, false, false)] < 30 || (counts[fmt.Sprint(cell, true, false)] >= 30) != hidden {
			t.Error("the random states are too similar:", counts)
		}
	}
}

func TestP14_3Examples(t *testing.T) {
	m := of(t, hiding)
	for visible, list := range map[string][]int{
		"":                       {0, 0, 0, 0, 0, 0, 0, 0, 0, 0, 0, 0, 0, 0, 0, 0, 0},
		"11 13":                  {1, 1, 1, 1, 0, 0, 1, 1, 1, 1, 0, 1, 0, 1, -1, 0, 0},
		"4 6 8":                  {0, 1, 1, 1, 1, 0, 1, 1, 1, 1, 0, 0, -3, 0, 0, 0, 0},
		"0 4 6 8":                {1, 1, 1, 1, 1, 0, 1, 1, 1, 1, 0, 0, 0, 0, 0, 0, 0},
		"0 1 2 3 4 5 6 7 8 9 14": {1, 7, 1, 1, 1, 1, 3, 1, 1, 2, 0, 0, 0, -7, 2, 0, 0},
		"4 5 8 9 16":             {1, 1, 1, 1, 1, 1, 0, 0, 1, 1, 0, 0, 0, 0, 0, 0, 9},
		"16":                     {0, 0, 0, 0, 0, 0, 0, 0, 0, 0, 0, 0, 0, 0, 0, -1 << 63, 1<<63 - 1},
	} {
		var cells []string
		for cell, v := range state.Visible(m, list) {
			if v {
				cells = append(cells, fmt.Sprint(cell))
			}
		}
		if got := strings.Join(cells, " "); got != visible {
			t.Errorf("in %v the cells %q are visible, not %q", list, got, visible)
		}
	}
	if got := state.Visible(of(t, ""), nil); len(got) > 0 {
		t.Error(got)
	}
}

func TestP14_5Hides(t *testing.T) {
	m := of(t, hiding)
	random := rand.New(rand.NewSource(3))
	for range 500 {
		list := make([]int, 17)
		for i := range list {
			list[i] = random.Intn(3)
		}
		visible := state.Visible(m, list)
		for _, h := range m.Hides {
			from, to := m.Tables[h.Table], m.Tables[h.To]
			for i, tuple := range cells.Tuples(m.Sorts, from.Columns) {
				if visible[from.First+i] && !visible[to.First+tuple[h.Column]] {
					t.Fatalf("in %v a tuple of %s is visible without that of %s", list, from.Name, to.Name)
				}
			}
		}
	}
	// A path of all relations that a program can have.
	text := "sort s 1; "
	for i := range api.MaxTables {
		text += fmt.Sprintf("relation r%d(a: s); ", i)
		if i > 0 {
			text += fmt.Sprintf("invariant i%d: reference r%d(a) to r%d hide; ", i, i-1, i)
		}
	}
	long := of(t, text)
	for missing := range api.MaxTables + 1 {
		list := slices.Repeat([]int{1}, api.MaxTables)
		if missing < api.MaxTables {
			list[missing] = 0
		}
		for cell, got := range state.Visible(long, list) {
			if got != (missing == api.MaxTables || cell > missing) {
				t.Errorf("without %d the cell %d is visible: %v", missing, cell, got)
			}
		}
	}
}

func TestP14_4Format(t *testing.T) {
	m := of(t, wide)
	initial := state.Initial(m)
	if text, e := state.Format(m, initial); text != "" || e != api.OK {
		t.Errorf("%q, %d", text, e)
	}
	for want, values := range map[string]map[int]int{
		"u(1) = 1;\n": {1: 1}, "r(1, 2) = -1;\nd() = 0;\n": {8: -1, 17: 0}, "c(0) = 0;\nc(1) = -3;\ne(1, 0) = 1;\nk() = 9999;\n": {9: 0, 10: -3, 15: 1, 18: 9999}, "u(0) = -9999;\n": {0: -9999, 17: 4}, "v(0) = 2;\nv(1) = 10;\n": {11: 2, 12: 10},
	} {
		list := slices.Clone(initial)
		for cell, value := range values {
			list[cell] = value
		}
		if got, e := state.Format(m, list); got != want || e != api.OK {
			t.Errorf("%q, %d, not %q", got, e, want)
		}
		if got, e := state.Parse(m, want); !slices.Equal(got, list) || e != api.OK {
			t.Errorf("%q is %v, %d", want, got, e)
		}
	}
	for _, value := range []int{10000, -10000, 1 << 62, -1 << 63, 1<<63 - 1} {
		for cell := range initial {
			list := slices.Clone(initial)
			list[cell] = value
			if got, e := state.Format(m, list); got != "" || e != api.ErrRange {
				t.Errorf("%d at %d: %q, %d", value, cell, got, e)
			}
		}
	}
}

// The text of a state has at most 35 bytes for each of 128 cells.
func TestP14_4Long(t *testing.T) {
	short, long := strings.Repeat("n", 11), strings.Repeat("n", api.MaxName)
	m := of(t, "sort s 4; relation "+short+"(x: s, y: s, z: s); relation "+long+"(x: s, y: s, z: s);")
	list := slices.Concat(slices.Repeat([]int{-1}, 64), slices.Repeat([]int{-9999}, 64))
	text, e := state.Format(m, list)
	if e != api.OK || len(text) != 64*len(short+"(0, 0, 0) = -1;\n")+64*len(long+"(0, 0, 0) = -9999;\n") {
		t.Fatal(len(text), e)
	}
	// Each further digit is a further byte.
	for left := api.MaxSource - len(text); left > 0; left-- {
		cell := (left - 1) / 3
		list[cell] = list[cell]*10 - 1
	}
	text, e = state.Format(m, list)
	if e != api.OK || len(text) != api.MaxSource {
		t.Fatal(len(text), e)
	}
	if got, e := state.Parse(m, text); !slices.Equal(got, list) || e != api.OK {
		t.Error(got, e)
	}
	list[63] = -11
	if text, e := state.Format(m, list); text != "" || e != api.ErrTooLarge {
		t.Errorf("%d bytes, %d", len(text), e)
	}
	list[127] = -10000
	if text, e := state.Format(m, list); text != "" || e != api.ErrRange {
		t.Errorf("%d bytes, %d", len(text), e)
	}
}

func TestP14_4Parse(t *testing.T) {
	m := of(t, wide)
	initial := state.Initial(m)
	for text, values := range map[string]map[int]int{
		"": nil, " # nothing\n": nil, "\t\r\n": nil,
		"u(1)=1;": {1: 1}, "k() = - 5; u(01) = 0001;": {18: -5, 1: 1}, "r ( 1 , 2 )\n=\n-\n3\n; # r\nr(0,0)=7;": {8: -3, 3: 7}, "c(0)=-0;c(1)=0000;": {9: 0, 10: 0}, "d() = 9999; k() = -9999;": {17: 9999, 18: -9999}, "u(0) = 0; d() = 4;": nil,
		"r(1,2)=3;" + strings.Repeat(" ", api.MaxSource-len("r(1,2)=3;")): {8: 3},
	} {
		want := slices.Clone(initial)
		for cell, value := range values {
			want[cell] = value
		}
		if got, e := state.Parse(m, text); !slices.Equal(got, want) || e != api.OK {
			t.Errorf("%.40q is %v, %d, not %v", text, got, e, want)
		}
	}
}

func TestP14_4ParseErrors(t *testing.T) {
	m := of(t, wide)
	check := func(want api.Errno, texts ...string) {
		t.Helper()
		for _, text := range texts {
			if got, e := state.Parse(m, text); len(got) > 0 || e != want {
				t.Errorf("%.60q is %v, %d", text, got, e)
			}
		}
	}
	blanks := strings.Repeat(" ", api.MaxSource)
	check(api.ErrTooLarge, blanks+" ", "k() = 1"+blanks, "("+blanks, "x() = 1;"+blanks)
	check(api.ErrSyntax, ";", "k", "k(", "k()", "k() =", "k() = 1", "k() = 1,", "k() = ;", "k() = -;", "k() = --1;", "k() = +1;", "k() = x;", "k() = 1 2;", "k() == 1;", "k() 1;", "k() = 1;;", "; k() = 1;", "k() = 1; k()", "k() = 1; u(", "k = 1;", "k() = 1 u(0) = 1;", "k( = 1;", "(0) = 1;", "1 = k();", "K() = 1;", "last() = 1;", "u(x) = 1;", "u(-1) = 1;", "r(1 2) = 1;", "r(1, 2,) = 1;", "r(, 2) = 1;", "k() = 1; \xff", "k() = 1.5;", "k() = (1);", "k() = k();", "k() = 1: ")
	check(api.ErrName, "x() = 1;", "m(0) = 1;", "g() = 1;", "few() = 1;", "s() = 1;", "a_name_of_more_than_16() = 1;", "x(9999) = 99999;", "k() = 1; x() = 1; k() = 2;", "x() = 1; k() = 1; k() = 1;", "x() = 1; u(3) = 1;")
	check(api.ErrRange, "k(0) = 1;", "u() = 1;", "u(3) = 1;", "u(9999) = 1;", "u(0, 0) = 1;", "r(2, 0) = 1;", "r(0, 3) = 1;", "u(00001) = 1;", "u(00000) = 1;", "u(18446744073709551616) = 1;", "k() = 10000;", "k() = -10000;", "k() = 00001;", "k() = -00000;", "k() = 18446744073709551617;", "k() = 1; k() = 10000;", "u(0) = 1; u(3) = 1; u(0) = 1; x() = 1;", "k() = 10000; x() = 1;", "r(2, 0) = 1; x() = 1;")
	check(api.ErrExists, "k() = 1; k() = 1;", "k() = 0; k() = 1;", "u(1) = 1; u(0) = 1; u(01) = 1;", "r(0, 1) = 1; r(1, 0) = 1; r(0, 1) = 2;", "d() = 4; d() = 4;", "k() = 1; k() = 1; x() = 1;", "k() = 1; k() = 1; k() = 10000;")
	check(api.ErrSyntax, "x() = 1; k()", "k(0) = 1; k(", "k() = 10000", "k() = 1; k() = 1; k()", strings.Repeat("k(", 2000))
	// An entry of a text without blanks can have more words than a text with blanks.
	check(api.ErrRange, "u("+strings.Repeat("1,", 2040)+"1)=1;")
	for i, m := range broken(t) {
		for _, text := range []string{"", "r(0) = 1;", "x() = 1;", "(", blanks + blanks} {
			if got, e := state.Parse(m, text); len(got) > 0 || e != api.ErrArg {
				t.Errorf("%d: %q is %v, %d", i, text, got, e)
			}
		}
	}
	// A set and a relation: the name of the set is none here, also if it stands in front.
	if got, e := state.Parse(of(t, "set m() addwins; relation r();"), "m() = 1;"); len(got) > 0 || e != api.ErrName {
		t.Error(got, e)
	}
	if got, e := state.Parse(of(t, ""), ""); len(got) > 0 || e != api.OK {
		t.Error(got, e)
	}
}

func TestP14_5Texts(t *testing.T) {
	random := rand.New(rand.NewSource(4))
	for _, text := range []string{"", chapter, wide, hiding, "sort s 6; sort t 3; counter c(a: s, b: s, x: t) in -9999..-1; counter d(a: s, b: t) in 3..4;"} {
		m := of(t, text)
		for range 100 {
			list := state.Initial(m)
			for i := range list {
				if random.Intn(2) == 0 {
					list[i] = random.Intn(19999) - 9999
				}
			}
			word, e := state.Format(m, list)
			if e != api.OK {
				t.Fatal(list, e)
			}
			for _, read := range []string{word, strings.NewReplacer(" ", "", "\n", "").Replace(word), "# a state\n" + word} {
				if got, e := state.Parse(m, read); !slices.Equal(got, list) || e != api.OK {
					t.Fatalf("%q is %v, %d, not %v", read, got, e, list)
				}
			}
		}
	}
}

func TestP14_5Order(t *testing.T) {
	random := rand.New(rand.NewSource(5))
	for range 500 {
		list := make([]int, 1+random.Intn(6))
		for i := range list {
			list[i] = random.Intn(2001) - 1000
		}
		delta := make([]api.Change, random.Intn(8))
		for i := range delta {
			delta[i] = api.Change{Cell: random.Intn(len(list)+2) - 1, Add: random.Intn(201) - 100}
		}
		want := state.Apply(list, delta)
		if got := state.Apply(list, effect.Join(delta)); !slices.Equal(got, want) {
			t.Fatalf("%v behind %v is %v, not %v", list, effect.Join(delta), got, want)
		}
		cut := random.Intn(len(delta) + 1)
		if got := state.Apply(state.Apply(list, delta[:cut]), delta[cut:]); !slices.Equal(got, want) {
			t.Fatalf("%v behind %v in two parts is %v, not %v", list, delta, got, want)
		}
		random.Shuffle(len(delta), func(i, k int) { delta[i], delta[k] = delta[k], delta[i] })
		if got := state.Apply(list, delta); !slices.Equal(got, want) {
			t.Fatalf("%v behind %v is %v, not %v", list, delta, got, want)
		}
	}
}

func TestP14_5Rows(t *testing.T) {
	m := of(t, wide)
	random := rand.New(rand.NewSource(6))
	counts := map[bool]int{}
	for range 500 {
		list := some(random, m)
		delta := make([]api.Change, random.Intn(6))
		for i := range delta {
			delta[i] = api.Change{Cell: random.Intn(len(list)), Add: random.Intn(5) - 2}
		}
		violated := state.Violated(m, state.Apply(list, delta))
		for i, c := range m.Constraints {
			if c.Kind != api.ConstraintRow {
				continue
			}
			sum := 0
			for _, term := range c.Row.Terms {
				sum += term.Factor * list[term.Cell]
			}
			holds := sum+effect.Change(c.Row, delta) <= c.Row.Bound
			if slices.Contains(violated, i) == holds || constraint.Holds(c, state.Apply(list, delta)) != holds {
				t.Fatalf("%v behind %v: %v holds: %v", list, delta, c.Row, !holds)
			}
			counts[holds]++
		}
	}
	if counts[true] < 100 || counts[false] < 100 {
		t.Error("the random changes are too similar:", counts)
	}
}

func TestRulesMemory(t *testing.T) {
	m, before := of(t, hiding), of(t, hiding)
	list := []int{1, 0, 1, 1, 1, 1, 1, 0, 1, 1, 0, 0, 0, 1, 1, 0, 0}
	copied := slices.Clone(list)
	delta := []api.Change{{Cell: 3, Add: 4}, {Cell: 99, Add: 1}}
	clear(state.Apply(list, delta))
	clear(state.Apply(list, nil))
	clear(state.Initial(m))
	clear(state.Visible(m, list))
	clear(state.Violated(m, list))
	state.Valid(m, list)
	word, _ := state.Format(m, list)
	a, _ := state.Parse(m, word)
	b, _ := state.Parse(m, word)
	clear(a)
	if !slices.Equal(b, copied) || !slices.Equal(list, copied) || !reflect.DeepEqual(m, before) || !slices.Equal(delta, []api.Change{{Cell: 3, Add: 4}, {Cell: 99, Add: 1}}) {
		t.Error("arguments have changed, or results share memory")
	}
	long := make([]int, 2, 9)
	if got := append(state.Apply(long, nil), 7); long[:3][2] == 7 || got[2] != 7 {
		t.Error("a result shares memory with an argument")
	}
}

// P1: every function terminates for arguments of all kinds, too.
func TestP1Arguments(t *testing.T) {
	models := append(broken(t), of(t, wide), of(t, hiding), of(t, ""), api.Model{Hides: make([]api.Hide, 3), Tables: make([]api.Table, 3)}, api.Model{Sorts: []int{1 << 62}, Tables: []api.Table{{Name: "r", Columns: []int{0, -1}}}})
	for _, m := range models {
		for _, list := range [][]int{nil, {-1 << 63, 1<<63 - 1, 0}, slices.Repeat([]int{1<<63 - 1}, 17), slices.Repeat([]int{-1 << 63}, 19), make([]int, 1<<16)} {
			state.Valid(m, list)
			state.Violated(m, list)
			state.Visible(m, list)
			state.Format(m, list)
			state.Apply(list, []api.Change{{Cell: 1 << 62, Add: 1 << 62}, {Cell: 1, Add: -1 << 63}})
		}
		for _, text := range []string{strings.Repeat("k()=1;", 682), strings.Repeat("(", 4096), strings.Repeat("u(0)=", 800), "\x00", strings.Repeat(";", 1<<20)} {
			state.Parse(m, text)
		}
	}
}
