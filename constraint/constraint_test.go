package constraint_test

import (
	"fmt"
	"math/rand"
	"reflect"
	"slices"
	"strings"
	"testing"

	"confluent/api"
	"confluent/cells"
	"confluent/checker"
	"confluent/constraint"
	"confluent/effect"
	"confluent/syntax"
)

const (
	chapter = "sort s 2; relation r(a: s, b: s); invariant i: key r(b); invariant j: acyclic r;"
	// The strict cells are r 0 to 5, u 6 and 7, c 8 to 10, e 11 to 19, k 20 and v 21 to 23.
	tables = "sort s 2; sort t 3; relation r(a: s, b: t); set m(a: t) addwins; relation u(a: s); counter c(a: t) in -2..9; register g() in 0..1 last; relation e(a: t, b: t); counter k() in 5..5; relation v(a: t); "
)

func compile(t *testing.T, text string) api.Program {
	t.Helper()
	p, wrong, e := checker.Check(text)
	if e != api.OK || len(wrong) > 0 {
		t.Fatalf("%s is not accepted: %v, %d", text, wrong, e)
	}
	return p
}

func terms(pairs ...int) []api.Term {
	var all []api.Term
	for i := 0; i < len(pairs); i += 2 {
		all = append(all, api.Term{Cell: pairs[i], Factor: pairs[i+1]})
	}
	return all
}

// row returns a constraint with pairs of a cell and a factor.
func row(family, bound int, pairs ...int) api.Constraint {
	return api.Constraint{Family: family, Row: api.Row{Terms: terms(pairs...), Bound: bound}}
}

func graph(family, first, size int) api.Constraint {
	return api.Constraint{Kind: api.ConstraintAcyclic, Family: family, First: first, Size: size}
}

func same(a, b api.Constraint) bool {
	return a.Kind == b.Kind && a.Family == b.Family && a.First == b.First && a.Size == b.Size && a.Row.Bound == b.Row.Bound && slices.Equal(a.Row.Terms, b.Row.Terms)
}

func TestP12_1Chapter(t *testing.T) {
	p := compile(t, chapter)
	if got := constraint.Families(p); !slices.Equal(got, []string{"r", "i", "j"}) {
		t.Error(got)
	}
	got, e := constraint.Of(p)
	want := []api.Constraint{
		row(0, 0, 0, -1), row(0, 1, 0, 1), row(0, 0, 1, -1), row(0, 1, 1, 1), row(0, 0, 2, -1), row(0, 1, 2, 1), row(0, 0, 3, -1), row(0, 1, 3, 1),
		row(1, 1, 0, 1, 2, 1), row(1, 1, 1, 1, 3, 1), graph(2, 0, 2),
	}
	if e != api.OK || !slices.EqualFunc(got, want, same) {
		t.Error(got, e)
	}
	for i, words := range map[int]string{8: "r(0, 0) + r(1, 0) <= 1", 9: "r(0, 1) + r(1, 1) <= 1", 10: "acyclic r"} {
		if text := constraint.Words(p, want[i]); text != words {
			t.Errorf("%d: %q", i, text)
		}
	}
	state := []int{0, 1, 1, 0}
	if cycle := constraint.Cycle(want[10], state); !slices.Equal(cycle, []int{0, 1}) || constraint.Holds(want[10], state) {
		t.Error(cycle)
	}
}

func TestP12_1Families(t *testing.T) {
	for text, want := range map[string][]string{
		"":          nil,
		"sort s 2;": nil,
		"set m() addwins; register g() in 0..1 multi; operation o() { }": nil,
		"invariant i: all() k() <= 1; counter k() in 0..1;":              {"k", "i"},
		tables + "invariant z: acyclic e; operation o() { } relation a(); invariant b: reference u(a) to w hide; register l() in 0..1 last; relation w(a: s);": {"r", "u", "c", "e", "k", "v", "a", "w", "z", "b"},
	} {
		p := compile(t, text)
		if got := constraint.Families(p); !slices.Equal(got, want) {
			t.Errorf("%s has the families %v, not %v", text, got, want)
		}
		all, e := constraint.Of(p)
		if e != api.OK {
			t.Error(e)
		}
		for _, c := range all {
			if c.Family < 0 || c.Family >= len(want) {
				t.Errorf("%s: %v", text, c)
			}
		}
	}
}

func TestP12_1Tables(t *testing.T) {
	p := compile(t, tables)
	got, e := constraint.Of(p)
	var want []api.Constraint
	for family, table := range []struct{ first, count, lo, hi int }{{0, 6, 0, 1}, {6, 2, 0, 1}, {8, 3, -2, 9}, {11, 9, 0, 1}, {20, 1, 5, 5}, {21, 3, 0, 1}} {
		for i := range table.count {
			want = append(want, row(family, -table.lo, table.first+i, -1), row(family, table.hi, table.first+i, 1))
		}
	}
	if e != api.OK || !slices.EqualFunc(got, want, same) {
		t.Error(got, e)
	}
}

// of returns the constraints of the last invariant of a program.
func of(t *testing.T, p api.Program) []api.Constraint {
	t.Helper()
	family := len(constraint.Families(p)) - 1
	all, e := constraint.Of(p)
	if e != api.OK {
		t.Fatal(e)
	}
	return slices.DeleteFunc(all, func(c api.Constraint) bool { return c.Family != family })
}

func TestP12_1Invariants(t *testing.T) {
	const f = 6
	for invariant, want := range map[string][]api.Constraint{
		"key r()":                                {row(f, 1, 0, 1, 1, 1, 2, 1, 3, 1, 4, 1, 5, 1)},
		"key r(a)":                               {row(f, 1, 0, 1, 1, 1, 2, 1), row(f, 1, 3, 1, 4, 1, 5, 1)},
		"key r(b)":                               {row(f, 1, 0, 1, 3, 1), row(f, 1, 1, 1, 4, 1), row(f, 1, 2, 1, 5, 1)},
		"key r(a, b)":                            {row(f, 1, 0, 1), row(f, 1, 1, 1), row(f, 1, 2, 1), row(f, 1, 3, 1), row(f, 1, 4, 1), row(f, 1, 5, 1)},
		"key r(b, a)":                            {row(f, 1, 0, 1), row(f, 1, 3, 1), row(f, 1, 1, 1), row(f, 1, 4, 1), row(f, 1, 2, 1), row(f, 1, 5, 1)},
		"count u() <= 1":                         {row(f, 1, 6, 1, 7, 1)},
		"count u() >= 1":                         {row(f, -1, 6, -1, 7, -1)},
		"count u() <= -3":                        {row(f, -3, 6, 1, 7, 1)},
		"count r(a) >= -0012":                    {row(f, 12, 0, -1, 1, -1, 2, -1), row(f, 12, 3, -1, 4, -1, 5, -1)},
		"count r(b, a) <= 0":                     {row(f, 0, 0, 1), row(f, 0, 3, 1), row(f, 0, 1, 1), row(f, 0, 4, 1), row(f, 0, 2, 1), row(f, 0, 5, 1)},
		"reference r(a) to u":                    {row(f, 0, 0, 1, 6, -1), row(f, 0, 1, 1, 6, -1), row(f, 0, 2, 1, 6, -1), row(f, 0, 3, 1, 7, -1), row(f, 0, 4, 1, 7, -1), row(f, 0, 5, 1, 7, -1)},
		"reference r(b) to v":                    {row(f, 0, 0, 1, 21, -1), row(f, 0, 1, 1, 22, -1), row(f, 0, 2, 1, 23, -1), row(f, 0, 3, 1, 21, -1), row(f, 0, 4, 1, 22, -1), row(f, 0, 5, 1, 23, -1)},
		"reference r(a) to u hide":               nil,
		"acyclic e":                              {graph(f, 11, 3)},
		"all() k() <= 5":                         {row(f, 5, 20, 1)},
		"all() k() >= 5":                         {row(f, -5, 20, -1)},
		"all() k() - k() >= 5":                   {row(f, -5)},
		"all() - 3 * k() + sum(x: t) c(x) <= -9": {row(f, -9, 8, 1, 9, 1, 10, 1, 20, -3)},
		"all(x: s, y: t) r(x, y) - c(y) <= 2":    {row(f, 2, 0, 1, 8, -1), row(f, 2, 1, 1, 9, -1), row(f, 2, 2, 1, 10, -1), row(f, 2, 3, 1, 8, -1), row(f, 2, 4, 1, 9, -1), row(f, 2, 5, 1, 10, -1)},
		"all(y: t, x: s) r(x, y) <= 2":           {row(f, 2, 0, 1), row(f, 2, 3, 1), row(f, 2, 1, 1), row(f, 2, 4, 1), row(f, 2, 2, 1), row(f, 2, 5, 1)},
		"all(x: s) 2 * sum(y: t) r(x, y) - u(x) >= 0": {row(f, 0, 0, -2, 1, -2, 2, -2, 6, 1), row(f, 0, 3, -2, 4, -2, 5, -2, 7, 1)},
		"all(x: t, y: t) e(x, y) + e(y, x) <= 1":      {row(f, 1, 11, 2), row(f, 1, 12, 1, 14, 1), row(f, 1, 13, 1, 17, 1), row(f, 1, 12, 1, 14, 1), row(f, 1, 15, 2), row(f, 1, 16, 1, 18, 1), row(f, 1, 13, 1, 17, 1), row(f, 1, 16, 1, 18, 1), row(f, 1, 19, 2)},
		"all(x: t) k() <= 7":                          {row(f, 7, 20, 1), row(f, 7, 20, 1), row(f, 7, 20, 1)},
	} {
		if got := of(t, compile(t, tables+"invariant i: "+invariant+";")); !slices.EqualFunc(got, want, same) {
			t.Errorf("%s has the constraints %v, not %v", invariant, got, want)
		}
	}
	// A family without constraints has an index, too.
	if got := of(t, compile(t, tables+"invariant i: reference r(a) to u hide; invariant j: key u();")); !slices.EqualFunc(got, []api.Constraint{row(7, 1, 6, 1, 7, 1)}, same) {
		t.Error(got)
	}
	// The target stands in front of the relation, and the invariant in front of both.
	if got := of(t, compile(t, "invariant i: reference r(b) to v; relation v(a: t); sort s 2; relation r(a: s, b: t); sort t 2;")); !slices.EqualFunc(got, []api.Constraint{row(2, 0, 0, -1, 2, 1), row(2, 0, 1, -1, 3, 1), row(2, 0, 0, -1, 4, 1), row(2, 0, 1, -1, 5, 1)}, same) {
		t.Error(got)
	}
}

// strangers returns programs that are not those of their trees.
func strangers(t *testing.T) []api.Program {
	p := compile(t, chapter+" operation o() { }")
	sizes, tables, invariants, fewer := p, p, p, p
	sizes.Sorts = []api.Sort{{Name: "s", Size: 3}}
	tables.Tables = slices.Clone(p.Tables)
	tables.Tables[0].Columns = []int{0}
	invariants.Invariants = slices.Clone(p.Invariants)
	invariants.Invariants[0].Node = 0
	fewer.Invariants = p.Invariants[:1]
	return []api.Program{{}, sizes, tables, invariants, fewer, {Tree: p.Tree}, {Tables: p.Tables}, {Tree: api.Node{Kind: 99}}}
}

func TestP12_1AndP12_4Strangers(t *testing.T) {
	for i, p := range strangers(t) {
		if got, e := constraint.Of(p); e != api.ErrArg || len(got) > 0 {
			t.Errorf("%d: %v, %d", i, got, e)
		}
		if got := constraint.Families(p); len(got) > 0 {
			t.Errorf("%d: %v", i, got)
		}
		for _, c := range []api.Constraint{{}, row(0, 1, 0, 1), graph(2, 0, 2)} {
			if got := constraint.Words(p, c); got != "" {
				t.Errorf("%d: %q", i, got)
			}
		}
	}
}

func TestP12_2Rows(t *testing.T) {
	const least, greatest = -1 << 63, 1<<63 - 1
	for i, c := range []struct {
		row   api.Constraint
		state []int
		want  bool
	}{
		{row(0, 0), nil, true}, {row(0, -1), nil, false}, {row(0, 5), []int{7}, true},
		{row(0, 3, 0, 1), []int{3}, true}, {row(0, 3, 0, 1), []int{4}, false}, {row(0, 3, 0, 1), []int{-9}, true},
		{row(0, 3, 0, 2, 2, -3), []int{3, 100, 1}, true}, {row(0, 2, 0, 2, 2, -3), []int{3, 100, 1}, false},
		{row(99, 0, 1, -1), []int{5, 0}, true}, {row(-1, 0, 1, -1), []int{5, -1}, false},
		{row(0, 4, 1, 2, 1, 1, 0, 1), []int{1, 1}, true}, {row(0, 3, 1, 2, 1, 1, 0, 1), []int{1, 1}, false},
		// Cells that are none of the list.
		{row(0, 9, 0, 1), nil, false}, {row(0, 9, 1, 1), []int{0}, false}, {row(0, 9, -1, 1), []int{0}, false}, {row(0, 9, 0, 1, 1, 1), []int{0}, false}, {row(0, 9, 0, 1, greatest, 1), []int{0}, false}, {row(0, 9, least, 0), []int{0}, false},
		// Numbers whose sum is no int.
		{row(0, 0, 0, greatest, 1, greatest), []int{1, 1}, false}, {row(0, 0, 0, greatest, 1, greatest, 2, greatest), []int{1, 1, 1}, false}, {row(0, 0, 0, least, 1, least), []int{1, 1}, true}, {row(0, 0, 0, 1<<62), []int{4}, false}, {row(0, 0, 0, -1<<62), []int{4}, true}, {row(0, 0, 0, 1<<32), []int{1 << 32}, false},
		{row(0, least, 0, 1), []int{least}, true}, {row(0, least, 0, 1), []int{least + 1}, false}, {row(0, greatest, 0, 1), []int{greatest}, true}, {row(0, greatest, 0, 1, 1, 1), []int{greatest, 1}, false}, {row(0, least, 0, 1, 1, 1), []int{least, -1}, true},
		{row(0, greatest, 0, least), []int{least}, false}, {row(0, greatest, 0, least, 1, least, 2, least), []int{least, least, least}, false}, {row(0, least, 0, least, 1, least, 2, least), []int{greatest, greatest, greatest}, true}, {row(0, 0, 0, least, 1, greatest, 2, 1), []int{least, least, least}, true}, {row(0, 0, 0, least, 1, greatest, 2, -1), []int{least, least, least}, false},
	} {
		if got := constraint.Holds(c.row, c.state); got != c.want {
			t.Errorf("%d: %v holds in %v: %v", i, c.row, c.state, got)
		}
		if got := constraint.Cycle(c.row, c.state); len(got) > 0 {
			t.Errorf("%d: %v", i, got)
		}
	}
	// First and Size do not matter for a row, nor does the row for a graph.
	odd := row(0, 1, 0, 1)
	odd.First, odd.Size = -1, 99
	if !constraint.Holds(odd, []int{1}) || constraint.Holds(odd, []int{2}) {
		t.Error("a row with a Size")
	}
	odd = graph(0, 1, 1)
	odd.Row = row(0, -1, 9, 1).Row
	if !constraint.Holds(odd, []int{5, 0}) || constraint.Holds(odd, []int{0, 1}) {
		t.Error("a graph with a Row")
	}
}

func TestP12_2AndP12_3Other(t *testing.T) {
	state := make([]int, 60)
	full := slices.Repeat([]int{1}, 60)
	for i, c := range []api.Constraint{
		{Kind: -1}, {Kind: 2}, {Kind: 2, Size: 1}, graph(0, 0, 0), graph(0, 0, -1), graph(0, 0, 7), graph(0, 0, 1<<32), graph(0, 0, 1<<62), graph(0, 0, -1<<63), graph(0, -1, 2), graph(0, 57, 2), graph(0, 25, 6), graph(0, 60, 1), graph(0, 1<<63-1, 1), graph(0, -1<<63, 6),
	} {
		for _, values := range [][]int{state, full, nil} {
			if constraint.Holds(c, values) || len(constraint.Cycle(c, values)) > 0 {
				t.Errorf("%d: %v", i, c)
			}
		}
	}
	for _, c := range []api.Constraint{graph(0, 0, 1), graph(0, 59, 1), graph(0, 56, 2), graph(0, 24, 6)} {
		if !constraint.Holds(c, state) || constraint.Holds(c, full) || !slices.Equal(constraint.Cycle(c, full), []int{0}) {
			t.Error(c)
		}
	}
}

// cyclesOf returns all cycles through different elements of a graph, each from its least element on, by their lengths, and lexicographically.
func cyclesOf(size int, state []int) [][]int {
	var all [][]int
	var extend func(path []int)
	extend = func(path []int) {
		for next := range size {
			if len(path) > 0 && state[path[len(path)-1]*size+next] < 1 {
				continue
			}
			switch {
			case len(path) > 0 && next == path[0]:
				all = append(all, slices.Clone(path))
			case !slices.Contains(path, next):
				extend(append(slices.Clone(path), next))
			}
		}
	}
	extend(nil)
	all = slices.DeleteFunc(all, func(cycle []int) bool { return slices.Min(cycle) != cycle[0] })
	slices.SortFunc(all, func(a, b []int) int {
		if len(a) != len(b) {
			return len(a) - len(b)
		}
		return slices.Compare(a, b)
	})
	return all
}

func checkGraph(t *testing.T, first, size int, edges []int) {
	t.Helper()
	c := graph(1, first, size)
	state := slices.Concat(slices.Repeat([]int{1}, first), edges, []int{1})
	all := cyclesOf(size, edges)
	if got := constraint.Holds(c, state); got != (len(all) == 0) {
		t.Fatalf("%v holds: %v", edges, got)
	}
	got := constraint.Cycle(c, state)
	if len(all) > 0 && !slices.Equal(got, all[0]) || len(all) == 0 && len(got) > 0 {
		t.Fatalf("%v has the cycle %v, of %v", edges, got, all)
	}
}

// someEdges returns the values of the cells of a graph: edges in the direction of a random order, and perhaps some against it.
func someEdges(random *rand.Rand, size int) []int {
	order := random.Perm(size)
	edges := make([]int, size*size)
	for i := range edges {
		edges[i] = -random.Intn(3)
	}
	for i := range size - 1 {
		edges[order[i]*size+order[i+1]] = 1
	}
	for range random.Intn(4) {
		if a, b := random.Intn(size), random.Intn(size); a < b {
			edges[order[a]*size+order[b]] = 1 + random.Intn(3)
		}
	}
	for range random.Intn(3) {
		edges[random.Intn(size)*size+order[0]] = 1 + random.Intn(3)
	}
	return edges
}

func TestP12_3Cycle(t *testing.T) {
	for size := 1; size <= 3; size++ {
		for mask := range 1 << (size * size) {
			edges := make([]int, size*size)
			for i := range edges {
				edges[i] = mask >> i & 1
			}
			checkGraph(t, mask%3, size, edges)
		}
	}
	random := rand.New(rand.NewSource(1))
	lengths := map[int]int{}
	for range 2000 {
		size := 4 + random.Intn(3)
		edges := someEdges(random, size)
		checkGraph(t, random.Intn(4), size, edges)
		lengths[len(constraint.Cycle(graph(0, 0, size), edges))]++
	}
	for length := range 7 {
		if lengths[length] < 10 {
			t.Error("the random graphs are too similar:", lengths)
		}
	}
	long := make([]int, 36)
	for a := range 6 {
		long[a*6+(a+5)%6] = 1
	}
	if got := constraint.Cycle(graph(0, 0, 6), long); !slices.Equal(got, []int{0, 5, 4, 3, 2, 1}) {
		t.Error(got)
	}
}

func TestP12_4Words(t *testing.T) {
	p := compile(t, tables)
	for i, c := range []struct {
		c    api.Constraint
		want string
	}{
		{row(0, 0), "0 <= 0"}, {row(0, -12), "0 <= -12"},
		{row(0, 1, 0, 1), "r(0, 0) <= 1"}, {row(0, -5, 20, -1), "-k() <= -5"}, {row(0, 0, 8, 2), "2 * c(0) <= 0"}, {row(0, 0, 8, -2), "-2 * c(0) <= 0"},
		{row(0, 7, 5, 1, 6, -1, 7, 3, 19, -10, 23, 1), "r(1, 2) - u(0) + 3 * u(1) - 10 * e(2, 2) + v(2) <= 7"},
		{row(0, 7, 5, -1, 6, -1), "-r(1, 2) - u(0) <= 7"},
		{row(-5, 1<<63-1, 0, -1<<63, 1, -1<<63), "-9223372036854775808 * r(0, 0) - 9223372036854775808 * r(0, 1) <= 9223372036854775807"},
		{row(0, 1, 3, 11, 0, 1, 0, 0), "11 * r(1, 0) + r(0, 0) + 0 * r(0, 0) <= 1"},
		{row(0, 1, 24, 1), ""}, {row(0, 1, -1, 1), ""}, {row(0, 1, 0, 1, 24, 1), ""}, {row(0, 1, 1<<63-1, 1), ""},
		{graph(3, 11, 3), "acyclic e"}, {graph(0, 11, 3), "acyclic e"},
		{graph(3, 11, 2), ""}, {graph(3, 12, 3), ""}, {graph(3, 0, 2), ""}, {graph(3, 0, 3), ""}, {graph(3, 6, 2), ""}, {graph(3, 8, 3), ""}, {graph(3, 21, 3), ""}, {graph(3, 20, 1), ""}, {graph(3, -1, 3), ""}, {graph(3, 0, 0), ""},
		{api.Constraint{Kind: 2}, ""}, {api.Constraint{Kind: -1}, ""}, {api.Constraint{Kind: 2, First: 11, Size: 3}, ""},
	} {
		if got := constraint.Words(p, c.c); got != c.want {
			t.Errorf("%d: %q, not %q", i, got, c.want)
		}
	}
	// A counter with two columns of one sort is no relation, and a convergent cell no strict one.
	q := compile(t, "sort s 2; counter c(a: s, b: s) in 0..1; set m(a: s, b: s) addwins; relation r(a: s, b: s); relation z(a: s, b: s);")
	for first, want := range map[int]string{0: "", 4: "acyclic r", 8: "acyclic z"} {
		if got := constraint.Words(q, graph(0, first, 2)); got != want {
			t.Errorf("%d: %q", first, got)
		}
	}
}

func TestP12_5Number(t *testing.T) {
	for invariants, want := range map[string]int{
		"": 48, "invariant i: key r();": 49, "invariant i: key r(b);": 51, "invariant i: count r(b, a) <= 4;": 54, "invariant i: reference r(a) to u;": 54, "invariant i: reference r(a) to u hide;": 48, "invariant i: acyclic e; invariant j: acyclic e;": 50, "invariant i: all(x: t, y: t, z: s) k() <= 9;": 66,
	} {
		if got, e := constraint.Of(compile(t, tables+invariants)); e != api.OK || len(got) != want {
			t.Errorf("%s: %d, %d", invariants, len(got), e)
		}
	}
	// The checker accepts 512 constraints, and no more.
	most := "sort s 6; sort t 4; relation r(a: t, b: t); relation u(a: t); relation v(a: t); invariant i: all(x: s, y: s, z: s) r(0, 0) <= 1; invariant j: all(x: s, y: s, z: s) r(0, 1) <= 1; " +
		"invariant k: count r(b, a) <= 1; invariant l: count r(a) <= 3; invariant m: key r(b); invariant n: reference u(a) to v; invariant o: key r(a); invariant p: reference v(a) to u hide; "
	if got, e := constraint.Of(compile(t, most)); e != api.OK || len(got) != api.MaxConstraints {
		t.Error(len(got), e)
	}
	if _, wrong, _ := checker.Check(most + "invariant q: key u();"); len(wrong) != 1 || wrong[0].Code != api.DiagMany {
		t.Error(wrong)
	}
}

// counts returns how many tuples of a relation have certain elements in some positions, for all of these.
func counts(p api.Program, table int, positions, state []int) map[string]int {
	sizes := cells.Sizes(p.Sorts)
	numbers := map[string]int{}
	for _, tuple := range cells.Tuples(sizes, p.Tables[table].Columns) {
		var group []int
		for _, position := range positions {
			group = append(group, tuple[position])
		}
		cell, _ := cells.Cell(sizes, p.Tables, table, tuple)
		numbers[fmt.Sprint(group)] += state[cell]
	}
	return numbers
}

func allHold(all []api.Constraint, state []int) bool {
	return !slices.ContainsFunc(all, func(c api.Constraint) bool { return !constraint.Holds(c, state) })
}

func TestP12_5Counts(t *testing.T) {
	random := rand.New(rand.NewSource(2))
	names := []string{"a", "b", "c"}
	seen := map[bool]int{}
	for range 60 {
		positions := random.Perm(3)[:random.Intn(4)]
		var columns []string
		for _, position := range positions {
			columns = append(columns, names[position])
		}
		invariant, sign, bound := "key r("+strings.Join(columns, ", ")+")", "<=", 1
		if random.Intn(2) == 0 {
			bound = random.Intn(3)
			if random.Intn(2) == 0 {
				sign = ">="
			}
			invariant = fmt.Sprintf("count r(%s) %s %d", strings.Join(columns, ", "), sign, bound)
		}
		p := compile(t, "sort s 2; sort t 3; relation q(a: t); relation r(a: t, b: s, c: t); invariant i: "+invariant+";")
		all := of(t, p)
		for range 40 {
			state := make([]int, 21)
			few := 1 + random.Intn(8)
			for i := range state {
				if random.Intn(9) >= few {
					state[i] = 1
				}
			}
			want := true
			for _, number := range counts(p, 1, positions, state) {
				want = want && (sign == "<=" && number <= bound || sign == ">=" && number >= bound)
			}
			if got := allHold(all, state); got != want {
				t.Fatalf("%s holds in %v: %v", invariant, state, got)
			}
			seen[want]++
		}
	}
	if seen[true] < 100 || seen[false] < 100 {
		t.Error("the random states are too similar:", seen)
	}
}

func TestP12_5References(t *testing.T) {
	random := rand.New(rand.NewSource(3))
	p := compile(t, tables+"invariant i: reference r(b) to v;")
	all := of(t, p)
	seen := map[bool]int{}
	for range 500 {
		state := make([]int, 24)
		for i := range state {
			state[i] = max(0, random.Intn(5)-3)
		}
		for i := range 3 {
			state[21+i] = random.Intn(2)
		}
		want := true
		for x := range 2 {
			for y := range 3 {
				want = want && state[x*3+y] <= state[21+y]
			}
		}
		if got := allHold(all, state); got != want {
			t.Fatalf("the reference holds in %v: %v", state, got)
		}
		seen[want]++
	}
	if seen[true] < 50 || seen[false] < 50 {
		t.Error("the random states are too similar:", seen)
	}
}

func TestP12_5Upwards(t *testing.T) {
	for size := 1; size <= api.MaxElements; size++ {
		edges := make([]int, size*size)
		if !constraint.Holds(graph(0, 0, size), edges) {
			t.Error("there is no edge, but a cycle")
		}
		for a := range size {
			for b := a + 1; b < size; b++ {
				edges[a*size+b] = 1
			}
		}
		if !constraint.Holds(graph(0, 0, size), edges) {
			t.Error("edges lead upwards, but there is a cycle")
		}
		edges[(size-1)*size] = 1
		if constraint.Holds(graph(0, 0, size), edges) {
			t.Error("there is a cycle")
		}
	}
}

func TestRulesMemory(t *testing.T) {
	p := compile(t, chapter+" invariant l: all(x: s) r(x, x) + r(0, x) <= 1;")
	before := syntax.Strip(p.Tree)
	a, _ := constraint.Of(p)
	b, _ := constraint.Of(p)
	for _, c := range a {
		for i := range c.Row.Terms {
			c.Row.Terms[i].Factor = 77
		}
	}
	c, _ := constraint.Of(p)
	if !slices.EqualFunc(b, c, same) || !syntax.Equal(before, p.Tree) {
		t.Error("results share memory with arguments")
	}
	for i := range b {
		if len(b[i].Row.Terms) > 0 {
			b[i].Row.Terms[0].Factor = 1000 + i
			b[i].Row.Terms = append(b[i].Row.Terms, api.Term{})
		}
	}
	for i := range b {
		if len(b[i].Row.Terms) > 0 && b[i].Row.Terms[0].Factor != 1000+i {
			t.Error("the parts of a result share memory")
		}
	}
	names := constraint.Families(p)
	names[0] = "x"
	if p.Tables[0].Name != "r" || constraint.Families(p)[0] != "r" {
		t.Error("results share memory with arguments")
	}
	state := []int{0, 1, 1, 0}
	g := graph(2, 0, 2)
	cycle := constraint.Cycle(g, state)
	cycle[0] = 7
	constraint.Holds(g, state)
	constraint.Words(p, g)
	if !reflect.DeepEqual(state, []int{0, 1, 1, 0}) || !slices.Equal(constraint.Cycle(g, state), []int{0, 1}) {
		t.Error("arguments have changed")
	}
	list := row(0, 1, 3, 1, 1, 1)
	constraint.Holds(list, state)
	constraint.Words(p, list)
	if !slices.Equal(list.Row.Terms, terms(3, 1, 1, 1)) {
		t.Error("arguments have changed")
	}
}

// The terms of an all are those of layer 11.
func TestP12_1Terms(t *testing.T) {
	p := compile(t, tables+"invariant i: all(x: s, y: t) 2 * sum(z: t) e(z, y) - 5 * u(x) + c(y) >= -3;")
	path, _ := syntax.Path(p.Tree, p.Invariants[0].Node)
	number, _ := syntax.Number(p.Tree, append(path, 0, 1)...)
	var want []api.Constraint
	for x := range 2 {
		for y := range 3 {
			l, e := effect.Terms(p, number, []api.Variable{{Name: "x", Sort: 0, Value: x}, {Name: "y", Sort: 1, Value: y}})
			if e != api.OK {
				t.Fatal(e)
			}
			for i := range l {
				l[i].Factor *= -1
			}
			want = append(want, api.Constraint{Family: 6, Row: api.Row{Terms: l, Bound: 3}})
		}
	}
	if got := of(t, p); !slices.EqualFunc(got, want, same) {
		t.Error(got, want)
	}
}
