package effect_test

import (
	"fmt"
	"math/rand"
	"reflect"
	"slices"
	"strings"
	"testing"

	"confluent/api"
	"confluent/checker"
	"confluent/effect"
	"confluent/syntax"
)

const chapter = "sort s 2; relation r(a: s); counter c(a: s) in 0..9; operation o(p: s) { insert r(p); for x: s where x != p { add 2 to c(x); } hold c(0) - 2 * c(p) >= 1; }"

func compile(t *testing.T, text string) api.Program {
	t.Helper()
	p, wrong, e := checker.Check(text)
	if e != api.OK || len(wrong) > 0 {
		t.Fatalf("%s is not accepted: %v, %d", text, wrong, e)
	}
	return p
}

// accepted reports whether a program is accepted; all that may be wrong with it is that it has too much of something.
func accepted(text string) bool {
	_, wrong, e := checker.Check(text)
	if e == api.OK && len(wrong) > 0 && wrong[0].Code != api.DiagMany && wrong[0].Code != api.DiagNodes && wrong[0].Code != api.DiagSize {
		panic(fmt.Sprint(text, wrong))
	}
	return e == api.OK && len(wrong) == 0
}

// only returns the number of the first node of a kind.
func only(t *testing.T, n api.Node, kind int) int {
	t.Helper()
	for number := range syntax.Count(n) {
		path, _ := syntax.Path(n, number)
		if found, _ := syntax.Get(n, path...); found.Kind == kind {
			return number
		}
	}
	t.Fatal("there is no node of the kind", kind)
	return 0
}

func TestP11_1Chapter(t *testing.T) {
	p := compile(t, chapter)
	for i, want := range []api.Effect{
		{Delta: []api.Change{{Cell: 0, Add: 1}, {Cell: 3, Add: 2}}, Hold: []api.Row{{Terms: []api.Term{{Cell: 2, Factor: 1}}, Bound: -1}}},
		{Delta: []api.Change{{Cell: 1, Add: 1}, {Cell: 2, Add: 2}}, Hold: []api.Row{{Terms: []api.Term{{Cell: 2, Factor: -1}, {Cell: 3, Factor: 2}}, Bound: -1}}},
	} {
		if got, e := effect.Of(p, 0, []int{i}); e != api.OK || !same(got, want) {
			t.Errorf("o(%d) has the effect %v, %d, not %v", i, got, e, want)
		}
	}
}

// row returns a row of pairs of a cell and a factor.
func row(bound int, pairs ...int) api.Row { return api.Row{Terms: terms(pairs...), Bound: bound} }

func terms(pairs ...int) []api.Term {
	var all []api.Term
	for i := 0; i < len(pairs); i += 2 {
		all = append(all, api.Term{Cell: pairs[i], Factor: pairs[i+1]})
	}
	return all
}

func changes(pairs ...int) []api.Change {
	var all []api.Change
	for i := 0; i < len(pairs); i += 2 {
		all = append(all, api.Change{Cell: pairs[i], Add: pairs[i+1]})
	}
	return all
}

func TestP11_1Statements(t *testing.T) {
	for body, want := range map[string]api.Effect{
		"":                        {},
		"require p == 1;":         {},
		"insert r(p);":            {Delta: changes(1, 1)},
		"delete r(0);":            {Delta: changes(0, -1)},
		"add n to k();":           {Delta: changes(17, -3)},
		"add 0 to k();":           {},
		"add n * 4 to c(2, p);":   {Delta: changes(7, -12)},
		"add 1000 * 1000 to k();": {Delta: changes(17, 1000000)},
		"add 2 to c(0, 1); add 3 to c(0, 0); add 4 to c(0, 1);":        {Delta: changes(2, 3, 3, 6)},
		"insert r(p); insert r(0); insert r(1); delete r(0);":          {Delta: changes(1, 2)},
		"add 2 to k(); add n to k(); add 1 to k();":                    {},
		"insert e(2, 1); insert r(0); add 1 to k(); add 1 to c(0, 0);": {Delta: changes(0, 1, 2, 1, 15, 1, 17, 1)},
		"put m(2);":            {Updates: []api.Update{{Kind: api.UpdatePut, Cell: 2}}},
		"drop n();":            {Updates: []api.Update{{Kind: api.UpdateDrop, Cell: 5}}},
		"assign g(p) = 7 + n;": {Updates: []api.Update{{Kind: api.UpdateAssign, Cell: 4, Value: 4}}},
		"assign h() = 0;":      {Updates: []api.Update{{Kind: api.UpdateAssign, Cell: 6}}},
		"put m(1); drop m(1);": {Updates: []api.Update{{Kind: api.UpdateDrop, Cell: 1}}},
		"drop m(1); put m(1);": {Updates: []api.Update{{Kind: api.UpdatePut, Cell: 1}}},
		"assign h() = 5; put n(); assign g(1) = 1; drop m(0); assign h() = 0;":        {Updates: []api.Update{{Kind: api.UpdateDrop, Cell: 0}, {Kind: api.UpdateAssign, Cell: 4, Value: 1}, {Kind: api.UpdatePut, Cell: 5}, {Kind: api.UpdateAssign, Cell: 6}}},
		"for x: t { put m(x); } drop m(1);":                                           {Updates: []api.Update{{Kind: api.UpdatePut, Cell: 0}, {Kind: api.UpdateDrop, Cell: 1}, {Kind: api.UpdatePut, Cell: 2}}},
		"for x: t { assign h() = 1; for y: s where x != 2 { assign g(p) = n - 1; } }": {Updates: []api.Update{{Kind: api.UpdateAssign, Cell: 4, Value: -4}, {Kind: api.UpdateAssign, Cell: 6, Value: 1}}},
		"hold k() <= n;":                                   {Hold: []api.Row{row(-3, 17, 1)}},
		"hold k() >= n;":                                   {Hold: []api.Row{row(3, 17, -1)}},
		"hold - 2 * k() + r(p) >= 0;":                      {Hold: []api.Row{row(0, 1, -1, 17, 2)}},
		"hold r(0) - r(0) <= 3;":                           {Hold: []api.Row{row(3)}},
		"hold r(0) - r(0) >= 3;":                           {Hold: []api.Row{row(-3)}},
		"hold k() <= 1; hold r(0) <= 0; hold k() <= 1;":    {Hold: []api.Row{row(1, 17, 1), row(0, 0, 1), row(1, 17, 1)}},
		"hold sum(x: t) c(x, p) - 3 * c(1, 1) + k() <= 6;": {Hold: []api.Row{row(6, 3, 1, 5, -2, 7, 1, 17, 1)}},
		"hold 2 * sum(x: s, y: t) r(x) - r(1) <= 6;":       {Hold: []api.Row{row(6, 0, 6, 1, 5)}},
		"for x: s { hold r(x) <= 0; for y: s where y != x { hold r(y) >= 1; } }": {Hold: []api.Row{row(0, 0, 1), row(-1, 1, -1), row(0, 1, 1), row(-1, 0, -1)}},
		"for x: t where x != 1 { for y: t where y == x { insert e(x, y); } }":    {Delta: changes(8, 1, 16, 1)},
		"for x: t where 1 == 2 { insert r(0); }":                                 {},
		"for x: t { insert r(p); } for x: s { add n to k(); }":                   {Delta: changes(1, 3, 17, -6)},
	} {
		text := tables + "operation o(p: s, n in -3..-3) { " + body + " }"
		if got, e := effect.Of(compile(t, text), 0, []int{1, -3}); e != api.OK || !same(got, want) {
			t.Errorf("%s has the effect %v, %d, not %v", body, got, e, want)
		}
	}
}

func TestP11_1Errors(t *testing.T) {
	p := compile(t, "sort s 2; relation r(a: s); operation o(p: s, n in -1..1) { insert r(p); require n != 0; for x: s where x != p { require x == 1; } } operation none() { } operation never() { require 1 == 2; }")
	for i, c := range []struct {
		procedure int
		arguments []int
		want      api.Errno
	}{
		{-1, nil, api.ErrNotFound}, {3, []int{0, -1}, api.ErrNotFound}, {1 << 62, nil, api.ErrNotFound},
		{0, nil, api.ErrRange}, {0, []int{0}, api.ErrRange}, {0, []int{0, 2}, api.ErrRange}, {0, []int{2, 1}, api.ErrRange}, {0, []int{-1, 1}, api.ErrRange}, {0, []int{0, 1, 0}, api.ErrRange}, {1, []int{0}, api.ErrRange}, {2, []int{0}, api.ErrRange},
		{0, []int{0, 0}, api.ErrState}, {0, []int{1, 1}, api.ErrState}, {2, nil, api.ErrState},
		{0, []int{0, -1}, api.OK}, {0, []int{0, 1}, api.OK}, {1, nil, api.OK},
	} {
		got, e := effect.Of(p, c.procedure, c.arguments)
		if e != c.want || (len(got.Delta) > 0) != (e == api.OK && c.procedure == 0) || len(got.Hold) > 0 || len(got.Updates) > 0 {
			t.Errorf("%d: %v, %d", i, got, e)
		}
	}
}

// strangers returns programs that are not those of their trees.
func strangers(t *testing.T) []api.Program {
	p := compile(t, chapter)
	sizes, kinds, first, parameters, node, sorts := p, p, p, p, p, p
	sizes.Sorts = []api.Sort{{Name: "s", Size: 3}}
	kinds.Tables = slices.Clone(p.Tables)
	kinds.Tables[0].Kind = api.TableCounter
	first.Tables = slices.Clone(p.Tables)
	first.Tables[1].First = 0
	parameters.Procedures = slices.Clone(p.Procedures)
	parameters.Procedures[0].Parameters = nil
	node.Procedures = slices.Clone(p.Procedures)
	node.Procedures[0].Node = -1
	sorts.Sorts = nil
	return []api.Program{{}, sizes, kinds, first, parameters, node, sorts, {Tree: p.Tree}, {Tree: api.Node{Kind: -1}}, {Procedures: p.Procedures}}
}

func TestP11_1AndP11_2Strangers(t *testing.T) {
	for i, p := range strangers(t) {
		for _, procedure := range []int{-1, 0, 1} {
			if got, e := effect.Of(p, procedure, []int{0}); e != api.ErrArg || !same(got, api.Effect{}) {
				t.Errorf("%d: %v, %d", i, got, e)
			}
		}
		for _, number := range []int{-1, 0, only(t, compile(t, chapter).Tree, api.NodeTotal)} {
			if got, e := effect.Terms(p, number, []api.Variable{{Name: "p"}}); e != api.ErrArg || len(got) > 0 {
				t.Errorf("%d: %v, %d", i, got, e)
			}
		}
	}
}

func TestP11_2Terms(t *testing.T) {
	p := api.Variable{Name: "p", Sort: 0, Value: 1}
	for i, c := range []struct {
		total     string
		variables []api.Variable
		want      []api.Term
		e         api.Errno
	}{
		{"k()", nil, terms(17, 1), api.OK},
		{"- k()", nil, terms(17, -1), api.OK},
		{"- 0002 * k() + 3 * k()", nil, terms(17, 1), api.OK},
		{"k() - k()", nil, nil, api.OK},
		{"r(1) + r(0) - 4 * c(2, 0)", nil, terms(0, 1, 1, 1, 6, -4), api.OK},
		{"sum(x: s) r(x) - sum(x: t) e(x, x)", nil, terms(0, 1, 1, 1, 8, -1, 12, -1, 16, -1), api.OK},
		{"sum() k()", nil, terms(17, 1), api.OK},
		{"7 * sum(x: t, y: s) c(x, y) - 7 * sum(z: t) c(z, 1)", nil, terms(2, 7, 4, 7, 6, 7), api.OK},
		{"999 * k()", nil, terms(17, 999), api.OK},
		{"r(p)", []api.Variable{p}, terms(1, 1), api.OK},
		{"c(q, p) - c(u, 0)", []api.Variable{{Name: "u", Value: 0}, {Name: "q", Sort: 1, Value: 2}, p}, terms(2, -1, 7, 1), api.OK},
		// Of several variables with one name the first one counts.
		{"r(p)", []api.Variable{p, {Name: "p", Value: 0}}, terms(1, 1), api.OK},
		{"r(p)", []api.Variable{{Name: "p", Value: 0}, p}, terms(0, 1), api.OK},
		{"r(p)", []api.Variable{{Name: "p", Value: 2}, p}, nil, api.ErrRange},
		{"r(p)", []api.Variable{p, {Name: "p", Value: 2}}, terms(1, 1), api.OK},
		// A sum column is what its term names.
		{"sum(x: s) r(x) + sum(x: t) c(x, p)", []api.Variable{{Name: "x", Value: 5}, p}, terms(0, 1, 1, 1, 3, 1, 5, 1, 7, 1), api.OK},
		// Only the values of variables matter.
		{"e(q, u)", []api.Variable{{Name: "q", Sort: -7, Value: 1}, {Name: "u", Sort: api.TypeInt, Range: api.Range{Lo: 5, Hi: 4}, Value: 2}, {Name: "", Value: -1}}, terms(13, 1), api.OK},
		{"r(p)", nil, nil, api.ErrRange},
		{"r(p)", []api.Variable{{Name: "P"}, {Name: ""}}, nil, api.ErrRange},
		{"r(p)", []api.Variable{{Name: "p", Value: -1}}, nil, api.ErrRange},
		{"r(p)", []api.Variable{{Name: "p", Value: 2}}, nil, api.ErrRange},
		{"r(p)", []api.Variable{{Name: "p", Value: 1 << 62}}, nil, api.ErrRange},
		{"k() + sum(x: t) c(x, p)", []api.Variable{{Name: "p", Value: 2}}, nil, api.ErrRange},
		{"r(p) - r(p)", nil, nil, api.ErrRange},
		{"e(q, u)", []api.Variable{{Name: "q", Value: 1}, {Name: "u", Value: 3}}, nil, api.ErrRange},
		{"e(q, u)", []api.Variable{{Name: "u", Value: 1}}, nil, api.ErrRange},
	} {
		program := compile(t, tables+"invariant i: all(p: s, q: t, u: t) "+c.total+" <= 5;")
		got, e := effect.Terms(program, only(t, program.Tree, api.NodeTotal), c.variables)
		if e != c.e || !slices.Equal(got, c.want) {
			t.Errorf("%d: %s has the terms %v, %d, not %v", i, c.total, got, e, c.want)
		}
	}
}

func TestP11_2Nodes(t *testing.T) {
	p := compile(t, chapter)
	total := only(t, p.Tree, api.NodeTotal)
	for number := -2; number < syntax.Count(p.Tree)+2; number++ {
		got, e := effect.Terms(p, number, []api.Variable{{Name: "p", Value: 1}})
		if number == total {
			if e != api.OK || !slices.Equal(got, terms(2, 1, 3, -2)) {
				t.Errorf("%d: %v, %d", number, got, e)
			}
			continue
		}
		if e != api.ErrNotFound || len(got) > 0 {
			t.Errorf("%d: %v, %d", number, got, e)
		}
	}
	for _, number := range []int{-1 << 63, 1<<63 - 1} {
		if got, e := effect.Terms(p, number, nil); e != api.ErrNotFound || len(got) > 0 {
			t.Errorf("%d: %v, %d", number, got, e)
		}
	}
}

func TestP11_3Collect(t *testing.T) {
	for i, c := range [][2][]api.Term{
		{nil, nil},
		{terms(3, 1), terms(3, 1)},
		{terms(3, 0), nil},
		{terms(3, 1, 2, 5, 3, -1), terms(2, 5)},
		{terms(3, 1, 2, 5, 3, -2, 0, 1), terms(0, 1, 2, 5, 3, -1)},
		{terms(-4, 2, 1<<63-1, 3, -4, 2, -1<<63, 1), terms(-1<<63, 1, -4, 4, 1<<63-1, 3)},
	} {
		if got := effect.Collect(c[0]); !slices.Equal(got, c[1]) {
			t.Errorf("%d: %v, not %v", i, got, c[1])
		}
	}
}

func TestP11_3Join(t *testing.T) {
	for i, c := range []struct {
		lists [][]api.Change
		want  []api.Change
	}{
		{nil, nil},
		{[][]api.Change{nil, {}, nil}, nil},
		{[][]api.Change{changes(4, 2)}, changes(4, 2)},
		{[][]api.Change{changes(4, 2, 1, 1, 4, -2)}, changes(1, 1)},
		{[][]api.Change{changes(4, 2), changes(4, -2)}, nil},
		{[][]api.Change{changes(4, 2, 7, 1), nil, changes(0, 5, 4, 3), changes(7, 0, 9, 0)}, changes(0, 5, 4, 5, 7, 1)},
		{[][]api.Change{changes(1, 1), changes(1, 1), changes(1, 1), changes(-1, 9)}, changes(-1, 9, 1, 3)},
	} {
		if got := effect.Join(c.lists...); !slices.Equal(got, c.want) {
			t.Errorf("%d: %v, not %v", i, got, c.want)
		}
	}
}

func TestP11_3Change(t *testing.T) {
	const million = 1000000
	for i, c := range []struct {
		row   api.Row
		delta []api.Change
		want  int
	}{
		{row(5), changes(1, 1), 0},
		{row(5, 1, 1), nil, 0},
		{row(5, 1, 3), changes(1, 2), 6},
		{row(-7, 1, 3, 2, -4), changes(0, 100, 1, 2, 2, 5, 3, 100), -14},
		{row(0, 4, million), changes(4, -million), -million * million},
		{row(0, 4, -million, 5, -million), changes(4, -million, 5, -million), 2 * million * million},
		// Neither the row nor the changes need be collected.
		{row(0, 4, 2, 1, 5, 4, 3), changes(4, 10, 4, 1, 1, 1, 4, 0), 60},
		{row(0, -1, 2), changes(-1, 3), 6},
	} {
		if got := effect.Change(c.row, c.delta); got != c.want {
			t.Errorf("%d: %d, not %d", i, got, c.want)
		}
	}
}

func TestP11_4Changes(t *testing.T) {
	random := rand.New(rand.NewSource(3))
	pairs := func() []int {
		var all []int
		for range random.Intn(6) {
			all = append(all, random.Intn(7)-1, random.Intn(9)-4)
		}
		return all
	}
	for range 2000 {
		a, b, c, r := changes(pairs()...), changes(pairs()...), changes(pairs()...), row(random.Intn(5), pairs()...)
		sum := 0
		for _, x := range slices.Concat(a, b, c) {
			for _, y := range r.Terms {
				if x.Cell == y.Cell {
					sum += x.Add * y.Factor
				}
			}
		}
		joined := effect.Join(a, b, c)
		if got := effect.Change(r, joined); got != sum || effect.Change(r, a)+effect.Change(r, b)+effect.Change(r, c) != sum {
			t.Fatalf("%v is changed by %v, %v and %v by %d, not %d", r, a, b, c, got, sum)
		}
		if got := effect.Change(api.Row{Terms: effect.Collect(r.Terms)}, joined); got != sum {
			t.Fatalf("%v when collected is changed by %d, not %d", r, got, sum)
		}
		if !slices.IsSortedFunc(joined, func(x, y api.Change) int { return max(-1, min(1, x.Cell-y.Cell)) }) || slices.ContainsFunc(joined, func(x api.Change) bool { return x.Add == 0 }) {
			t.Fatal(joined, "is not collected")
		}
	}
}

// TestP11_4Limits has operations with as much of everything as they can have.
func TestP11_4Limits(t *testing.T) {
	p := compile(t, "sort s 4; sort one 1; set m(a: s, b: s) addwins; set n(a: s, b: s) removewins; operation o() { for x: s { for y: s { put m(x, y); drop n(x, y); } } for x: s { hold k(x) <= 1; hold k(x) >= 0; } } counter k(a: s) in 0..9;")
	got, e := effect.Of(p, 0, nil)
	if e != api.OK || len(got.Updates) != api.MaxUpdates || len(got.Hold) != api.MaxHold || len(got.Delta) > 0 {
		t.Error(got, e)
	}
	// There are 6 * (1 + 6 * (1 + 6 * (1 + 3))) + 1 statements.
	q := compile(t, "sort s 6; counter k() in 0..9; operation o(n in 1..2) { for x: s { for y: s { for z: s { add n to k(); add 1 to k(); add -1000 * 1000 to k(); } } } add 3 to k(); }")
	if got, e := effect.Of(q, 0, []int{2}); e != api.OK || !slices.Equal(got.Delta, changes(0, 216*(3-1000000)+3)) {
		t.Error(got, e)
	}
}

func TestRulesMemory(t *testing.T) {
	p := compile(t, chapter)
	before := syntax.Strip(p.Tree)
	arguments, variables := []int{1}, []api.Variable{{Name: "p", Value: 1}, {Name: "p"}}
	number := only(t, p.Tree, api.NodeTotal)
	a, _ := effect.Of(p, 0, arguments)
	b, _ := effect.Of(p, 0, arguments)
	a.Delta[0].Add, a.Hold[0].Terms[0].Factor = 77, 77
	c, _ := effect.Of(p, 0, arguments)
	if !same(b, c) || !slices.Equal(arguments, []int{1}) {
		t.Error("results share memory, or arguments have changed")
	}
	x, _ := effect.Terms(p, number, variables)
	x[0].Factor = 77
	if y, _ := effect.Terms(p, number, variables); y[0].Factor != 1 || !reflect.DeepEqual(variables, []api.Variable{{Name: "p", Value: 1}, {Name: "p"}}) || !syntax.Equal(before, p.Tree) {
		t.Error("results share memory, or arguments have changed")
	}
	list, list2 := terms(3, 1, 2, 1), changes(3, 1, 2, 1)
	collected, joined := effect.Collect(list), effect.Join(list2)
	if !slices.Equal(list, terms(3, 1, 2, 1)) || !slices.Equal(list2, changes(3, 1, 2, 1)) {
		t.Error("arguments have changed")
	}
	collected[0].Factor, joined[0].Add = 77, 77
	if !slices.Equal(list, terms(3, 1, 2, 1)) || !slices.Equal(list2, changes(3, 1, 2, 1)) {
		t.Error("results share memory with arguments")
	}
	same := terms(2, 1, 3, 1)
	effect.Collect(same)[0].Factor = 77
	one := changes(2, 1, 3, 1)
	effect.Join(one)[0].Add = 77
	if same[0].Factor != 1 || one[0].Add != 1 {
		t.Error("results share memory with arguments")
	}
}

// P1: the longest programs come to an end, too.
func TestP1Long(t *testing.T) {
	text := "sort s 6; relation r(a: s, b: s); operation o() { " + strings.Repeat("insert r(0, 0); ", 150) + "hold sum(x: s, y: s, z: s) r(x, y) - 4 * sum(x: s, y: s) r(y, x) >= -9999; }"
	got, e := effect.Of(compile(t, text), 0, nil)
	if e != api.OK || !slices.Equal(got.Delta, changes(0, 150)) || len(got.Hold[0].Terms) != 36 || got.Hold[0].Terms[7] != (api.Term{Cell: 7, Factor: -2}) || got.Hold[0].Bound != 9999 {
		t.Error(got, e)
	}
}
