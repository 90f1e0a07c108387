package checker_test

import (
	"reflect"
	"slices"
	"strings"
	"testing"

	"confluent/api"
	"confluent/checker"
	"confluent/names"
	"confluent/parser"
	"confluent/printer"
	"confluent/syntax"
)

func parse(t *testing.T, text string) api.Node {
	t.Helper()
	n, wrong, e := parser.Parse(text)
	if e != api.OK || len(wrong) > 0 {
		t.Fatalf("%q is broken: %v, %d", text, wrong, e)
	}
	return n
}

func accepted(t *testing.T, text string) api.Program {
	t.Helper()
	p, wrong, e := checker.Check(text)
	if e != api.OK || len(wrong) > 0 {
		t.Fatalf("%q is not accepted: %v, %d", text, show(wrong), e)
	}
	return p
}

const (
	chapter = "sort s 2; counter c(a: s) in 0..3; operation o(p: s, n in 1..2) { add n to c(p); }"
	whole   = "operation o(p: s, n in -1..2, u: t) ordered { require p == 1 and n < 1; for x: t where x != u { put m(x); } } # nothing\n" +
		"invariant i: key r(b); relation r(a: t, b: s); sort s 2; set m(a: t) addwins; counter c() in -3..9; register g(a: s, b: s) in -5..-2 last; sort t 03; invariant j: acyclic r2; set n() removewins; relation r2(a: t, b: t); register k() in 0..0 multi; operation q() {} invariant l: reference r(a) to h hide; relation h(a: t);"
)

func TestP8_1Chapter(t *testing.T) {
	p := accepted(t, chapter)
	want := api.Program{
		Tree:       parse(t, chapter),
		Sorts:      []api.Sort{{Name: "s", Size: 2}},
		Tables:     []api.Table{{Name: "c", Kind: api.TableCounter, Columns: []int{0}, Range: api.Range{Hi: 3}}},
		Procedures: []api.Procedure{{Name: "o", Parameters: []api.Parameter{{Name: "p"}, {Name: "n", Sort: -1, Range: api.Range{Lo: 1, Hi: 2}}}, Node: 10}},
	}
	if !reflect.DeepEqual(p, want) {
		t.Errorf("%v, not %v", p, want)
	}
	if size := checker.Domain(p, 0); size != 4 {
		t.Error(size)
	}
	check(t, strings.Replace(chapter, "add n to c(p)", "insert [kind c|c(p)]", 1))
}

func TestP8_1Program(t *testing.T) {
	n := parse(t, whole)
	var nodes []int
	for i, kid := range n.Kids {
		if kid.Kind == api.NodeInvariant || kid.Kind == api.NodeOperation {
			number, _ := syntax.Number(n, i)
			nodes = append(nodes, number)
		}
	}
	want := api.Program{
		Tree:  n,
		Sorts: []api.Sort{{Name: "s", Size: 2}, {Name: "t", Size: 3}},
		Tables: []api.Table{
			{Name: "r", Kind: api.TableRelation, Columns: []int{1, 0}, Range: api.Range{Hi: 1}, First: 0},
			{Name: "m", Kind: api.TableAddWins, Columns: []int{1}, Range: api.Range{Hi: 1}, First: 0},
			{Name: "c", Kind: api.TableCounter, Range: api.Range{Lo: -3, Hi: 9}, First: 6},
			{Name: "g", Kind: api.TableLastWriter, Columns: []int{0, 0}, Range: api.Range{Lo: -5, Hi: -2}, First: 3},
			{Name: "n", Kind: api.TableRemoveWins, Range: api.Range{Hi: 1}, First: 7},
			{Name: "r2", Kind: api.TableRelation, Columns: []int{1, 1}, Range: api.Range{Hi: 1}, First: 7},
			{Name: "k", Kind: api.TableMultiValue, First: 8},
			{Name: "h", Kind: api.TableRelation, Columns: []int{1}, Range: api.Range{Hi: 1}, First: 16},
		},
		Invariants: []api.Invariant{{Name: "i", Node: nodes[1]}, {Name: "j", Node: nodes[2]}, {Name: "l", Node: nodes[4]}},
		Procedures: []api.Procedure{
			{Name: "o", Ordered: true, Parameters: []api.Parameter{{Name: "p", Sort: 0}, {Name: "n", Sort: -1, Range: api.Range{Lo: -1, Hi: 2}}, {Name: "u", Sort: 1}}, Node: 1},
			{Name: "q", Node: nodes[3]},
		},
	}
	got := accepted(t, whole)
	if !reflect.DeepEqual(got, want) {
		t.Errorf("%v, not\n%v", got, want)
	}
	tree, wrong, e := checker.Tree(n)
	if !reflect.DeepEqual(tree, want) || len(wrong) > 0 || e != api.OK {
		t.Error(tree, wrong, e)
	}
	stripped, wrong, e := checker.Tree(syntax.Strip(n))
	if want.Tree = syntax.Strip(n); !reflect.DeepEqual(stripped, want) || len(wrong) > 0 || e != api.OK {
		t.Error(stripped, wrong, e)
	}
	if p := accepted(t, " # nothing\n"); !reflect.DeepEqual(p, api.Program{Tree: api.Node{Kind: api.NodeProgram, End: 11}}) {
		t.Error(p)
	}
}

func TestP8_1Memory(t *testing.T) {
	n, copied := parse(t, whole), parse(t, whole)
	p, _, _ := checker.Tree(n)
	again, _, _ := checker.Tree(n)
	if !reflect.DeepEqual(n, copied) {
		t.Fatal("the tree has changed")
	}
	p.Tree.Kids[0].Kids[0].Kids[0].Text = "changed"
	p.Tables[0].Columns[0] = 9
	p.Procedures[0].Parameters[0].Name = "changed"
	checker.Variables(again, 0)[0].Name = "changed"
	if third, _, _ := checker.Tree(n); !reflect.DeepEqual(n, copied) || !reflect.DeepEqual(again, third) {
		t.Error("results share memory")
	}
}

// leaf returns a node without Kids.
func leaf(kind int, text string) api.Node { return api.Node{Kind: kind, Text: text} }

func TestP8_1Errors(t *testing.T) {
	broken, _, _ := parser.Parse("sort s; relation r(")
	noProgram, _, _ := parser.Expression("1 + 2")
	good := parse(t, chapter)
	for i, n := range []api.Node{{}, broken, noProgram, good.Kids[0], leaf(-1, ""), leaf(99, ""), leaf(api.NodeProgram, "x"), {Kind: api.NodeProgram, Kids: []api.Node{good}}, {Kind: api.NodeProgram, Kids: []api.Node{broken.Kids[0]}}} {
		if p, wrong, e := checker.Tree(n); e != api.ErrArg || len(wrong) > 0 || !reflect.DeepEqual(p, api.Program{}) {
			t.Errorf("tree %d: %v %v %d", i, p, wrong, e)
		}
	}
	for _, c := range []struct {
		bytes int
		want  api.Errno
	}{{api.MaxSource, api.OK}, {api.MaxSource + 1, api.ErrTooLarge}} {
		for _, text := range []string{chapter, "sort s 9; +"} {
			text += strings.Repeat(" ", c.bytes-len(text))
			p, wrong, e := checker.Check(text)
			if e != c.want || e != api.OK && (len(wrong) > 0 || !reflect.DeepEqual(p, api.Program{})) {
				t.Errorf("%d bytes: %v %v %d", c.bytes, p, wrong, e)
			}
		}
	}
}

// A phase with diagnostics ends the work.
func TestP8_1Phases(t *testing.T) {
	for _, text := range []string{"sort s 9; relation r(a: t)", "sort s 12345; relation s();", "relation a_name_of_more_than_16(); sort s 9;", "sort s 9; operation o() { require ; } ~"} {
		p, wrong, e := checker.Check(text)
		if _, want, _ := parser.Parse(text); e != api.OK || len(want) == 0 || !slices.Equal(wrong, want) || !reflect.DeepEqual(p, api.Program{}) {
			t.Errorf("%q: %v %v %d", text, p, wrong, e)
		}
	}
	check(t, "sort s 9; relation r(a: [unknown t|t]); [declared s|set s() addwins;] invariant i: [kind s|acyclic s];",
		"counter c() in 1..0; operation o(n in 1..0) { require [unknown m|m]; insert c(n); }")
	deep := "operation o() { require " + strings.Repeat("not ", 80) + "x == 1; } sort s 9;"
	check(t, "[depth|"+deep+"]")
	large := parse(t, "sort s 9; relation s();")
	large.Kids = slices.Repeat(large.Kids, 300)
	if _, wrong, e := checker.Tree(large); e != api.OK || !slices.Equal(show(wrong), []string{"nodes 0-23"}) {
		t.Error(show(wrong), e)
	}
	large.Kids = append(large.Kids, parse(t, deep).Kids...)
	if _, wrong, e := checker.Tree(large); e != api.OK || !slices.Equal(show(wrong), []string{"nodes 0-23", "depth 0-23"}) {
		t.Error(show(wrong), e)
	}
}

func TestP8_1Nodes(t *testing.T) {
	// The tree without the inserts has 11 nodes, and each insert 2.
	n := parse(t, "relation r(); counter c() in 0..1; operation o() { add 1 to c(); insert r(); }")
	block := &n.Kids[2].Kids[2]
	insert := block.Kids[1]
	for syntax.Count(n) < api.MaxNodes-1 {
		block.Kids = append(block.Kids, insert)
	}
	add, count := block.Kids[0], syntax.Count(n)
	if count == api.MaxNodes-1 {
		block.Kids[1] = add
		count++
	}
	if count != api.MaxNodes || syntax.Count(n) != count {
		t.Fatal(count)
	}
	if p, wrong, e := checker.Tree(n); e != api.OK || len(wrong) > 0 || len(p.Tables) != 2 {
		t.Error(show(wrong), e)
	}
	block.Kids[2] = add
	if _, wrong, e := checker.Tree(n); e != api.OK || !slices.Equal(show(wrong), []string{"nodes 0-78"}) {
		t.Error(show(wrong), e)
	}
}

func TestP8_1Levels(t *testing.T) {
	// NodeProgram, NodeOperation, NodeBlock and NodeRequire stand above, == and 1 below.
	nots := strings.Repeat("not ", api.MaxTreeDepth-6)
	check(t, "operation o() { require "+nots+"1 == 1; }", "[depth|operation o() { require not "+nots+"1 == 1; }]", "[depth|operation o() { require "+nots+"-1 == 1; } sort s 9;]")
}

func TestP8_2Find(t *testing.T) {
	p := accepted(t, whole)
	for i, table := range p.Tables {
		if got, ok := checker.Table(p, table.Name); got != i || !ok {
			t.Error(table.Name, got, ok)
		}
	}
	for i, name := range []string{"o", "q"} {
		if got, ok := checker.Procedure(p, name); got != i || !ok {
			t.Error(name, got, ok)
		}
	}
	for _, name := range []string{"s", "i", "o", "q", "p", "", "R"} {
		if got, ok := checker.Table(p, name); got != 0 || ok {
			t.Error(name, got, ok)
		}
	}
	for _, name := range []string{"s", "i", "r", "p", ""} {
		if got, ok := checker.Procedure(p, name); got != 0 || ok {
			t.Error(name, got, ok)
		}
	}
	typed := api.Program{Tables: []api.Table{{Name: "a"}, {}, {Name: "b", Kind: 99}, {Name: "b"}}, Procedures: []api.Procedure{{Name: "b"}, {}, {Name: "a"}, {Name: "b"}}}
	for name, want := range map[string][2]int{"a": {0, 2}, "b": {2, 0}, "": {1, 1}} {
		table, ok := checker.Table(typed, name)
		procedure, ok2 := checker.Procedure(typed, name)
		if table != want[0] || procedure != want[1] || !ok || !ok2 {
			t.Error(name, table, procedure, ok, ok2)
		}
	}
	if _, ok := checker.Table(api.Program{}, ""); ok {
		t.Error("a table of nothing")
	}
	if _, ok := checker.Procedure(api.Program{}, ""); ok {
		t.Error("an operation of nothing")
	}
}

func TestP8_2Variables(t *testing.T) {
	p := accepted(t, whole)
	want := []api.Variable{{Name: "p", Sort: 0}, {Name: "n", Sort: -1, Range: api.Range{Lo: -1, Hi: 2}}, {Name: "u", Sort: 1}}
	if got := checker.Variables(p, 0); !slices.Equal(got, want) {
		t.Error(got)
	}
	for _, procedure := range []int{1, 2, -1, 1 << 62, -1 << 63} {
		if got := checker.Variables(p, procedure); len(got) > 0 {
			t.Error(procedure, got)
		}
	}
	typed := api.Program{Procedures: []api.Procedure{{}, {Parameters: []api.Parameter{{Name: "?", Sort: 77, Range: api.Range{Lo: 5, Hi: -1 << 40}}, {Name: "?", Sort: -9}}}}}
	if got := checker.Variables(typed, 1); !slices.Equal(got, []api.Variable{{Name: "?", Sort: 77, Range: api.Range{Lo: 5, Hi: -1 << 40}}, {Name: "?", Sort: -9}}) {
		t.Error(got)
	}
}

func TestP8_2Domain(t *testing.T) {
	const least, greatest = -1 << 63, 1<<63 - 1
	ints := func(lo, hi int) api.Parameter { return api.Parameter{Sort: -1, Range: api.Range{Lo: lo, Hi: hi}} }
	of := func(sort int) api.Parameter { return api.Parameter{Sort: sort, Range: api.Range{Lo: 5, Hi: 99}} }
	sorts := []api.Sort{{Size: 2}, {Size: 3}, {Size: 0}, {Size: greatest}, {Size: 256}, {Size: 257}, {Size: 1}, {Size: least}}
	for i, c := range []struct {
		parameters []api.Parameter
		want       int
	}{
		{nil, 1}, {[]api.Parameter{of(0)}, 2}, {[]api.Parameter{of(0), of(1), of(0)}, 12}, {[]api.Parameter{of(1), ints(-2, 2)}, 15}, {[]api.Parameter{of(2)}, 0}, {[]api.Parameter{of(7)}, 0}, {[]api.Parameter{of(7), of(7)}, 0}, {[]api.Parameter{of(6), of(6)}, 1},
		{[]api.Parameter{ints(0, 0)}, 1}, {[]api.Parameter{ints(1, 0)}, 0}, {[]api.Parameter{ints(greatest, least)}, 0}, {[]api.Parameter{ints(greatest, greatest)}, 1}, {[]api.Parameter{ints(least, least+9)}, 10}, {[]api.Parameter{ints(-9, 0)}, 10},
		{[]api.Parameter{ints(1, 256)}, 256}, {[]api.Parameter{ints(1, 257)}, 257}, {[]api.Parameter{ints(0, 257)}, 257}, {[]api.Parameter{ints(least, greatest)}, 257}, {[]api.Parameter{ints(least, 0)}, 257}, {[]api.Parameter{ints(-1, greatest)}, 257},
		{[]api.Parameter{of(4)}, 256}, {[]api.Parameter{of(5)}, 257}, {[]api.Parameter{of(3)}, 257}, {[]api.Parameter{of(3), of(3), of(3)}, 257}, {[]api.Parameter{of(4), of(6)}, 256}, {[]api.Parameter{of(4), of(0)}, 257}, {[]api.Parameter{ints(1, 16), ints(1, 16), ints(7, 7), of(6)}, 256},
		{[]api.Parameter{of(2), of(3)}, 0}, {[]api.Parameter{of(3), of(2)}, 257}, {[]api.Parameter{ints(1, 16), ints(1, 17), ints(1, 0)}, 257}, {[]api.Parameter{ints(1, 16), ints(1, 0), ints(1, 17)}, 0},
	} {
		p := api.Program{Sorts: sorts, Procedures: []api.Procedure{{}, {Parameters: c.parameters}}}
		if got := checker.Domain(p, 1); got != c.want {
			t.Errorf("%d: %d, not %d", i, got, c.want)
		}
		for _, procedure := range []int{-1, 2, greatest, least} {
			if got := checker.Domain(p, procedure); got != 0 {
				t.Errorf("%d: the operation %d has a domain of %d", i, procedure, got)
			}
		}
	}
	// What is not there has no size that is promised, but does no harm.
	for _, sort := range []int{-2, 8, greatest, least} {
		checker.Domain(api.Program{Sorts: sorts, Procedures: []api.Procedure{{Parameters: []api.Parameter{of(sort), of(0)}}}}, 0)
	}
}

// samples are programs that are accepted.
func samples() []string {
	return []string{"", chapter, whole,
		"sort s 2; relation r(a: s); invariant i: count r() <= 1; operation o(p: s) { insert r(p); }",
		"sort s 2; relation r(a: s, b: s); relation q(a: s); invariant i: reference r(b) to q; invariant j: acyclic r; invariant k: key r(b, a); operation link(x: s, y: s) { require not (x == y or -1 > 2 - (1 - 3)); insert r(x, y); } operation unlink(x: s) { for y: s where x != y { delete r(x, y); for z: s { hold sum(v: s) r(v, z) - 2 * q(0) >= -(2 + 3) * 2; } } }",
		"sort s 2; sort t 3; counter c(a: s, b: t) in -3..9999; register g(a: t) in -9..9 multi; set m() removewins; invariant i: all(x: s) sum(y: t) c(x, y) - 2 * c(x, 1) <= 7; operation o(n in -2..2, u: t) ordered { assign g(u) = n * n - 3; add 2 * n to c(0, u); put m(); drop m(); }"}
}

func TestP8_3Rename(t *testing.T) {
	for _, text := range samples() {
		p := accepted(t, text)
		r, _, _ := names.Resolve(p.Tree)
		for i, d := range r.Declarations {
			n, e := names.Rename(p.Tree, i, "fresh")
			if e != api.OK {
				t.Fatal(e)
			}
			q, wrong, e := checker.Tree(n)
			if e != api.OK || len(wrong) > 0 {
				t.Errorf("%q with another name for %s: %v, %d", text, d.Name, show(wrong), e)
			}
			table, isTable := checker.Table(p, d.Name)
			if isTable && d.Kind == api.DeclTable && q.Tables[table].Name != "fresh" {
				t.Errorf("%q with another name for %s: %v", text, d.Name, q)
			}
		}
	}
}

func TestP8_3Canonical(t *testing.T) {
	for _, text := range samples() {
		p := accepted(t, text)
		canonical, _ := printer.Format(p.Tree)
		q := accepted(t, canonical)
		if !syntax.Equal(p.Tree, q.Tree) {
			t.Errorf("%q has another tree", text)
		}
		p.Tree, q.Tree = api.Node{}, api.Node{}
		if !reflect.DeepEqual(p, q) {
			t.Errorf("%q is %v, not %v", canonical, q, p)
		}
	}
}

func TestP8_3Cells(t *testing.T) {
	for _, text := range samples() {
		p := accepted(t, text)
		next := map[bool]int{}
		for _, table := range p.Tables {
			strict := table.Kind == api.TableRelation || table.Kind == api.TableCounter
			if table.First != next[strict] {
				t.Errorf("%q: the cells of %s begin at %d, not %d", text, table.Name, table.First, next[strict])
			}
			cells := 1
			for _, column := range table.Columns {
				cells *= p.Sorts[column].Size
			}
			next[strict] += cells
		}
	}
}

func TestP1Deep(t *testing.T) {
	n := leaf(api.NodeNumber, "1")
	for range 1 << 16 {
		n = api.Node{Kind: api.NodeUnary, Text: "-", Kids: []api.Node{n}}
	}
	tree := parse(t, "operation o() { require 1 == 1; }")
	tree.Kids[0].Kids[2].Kids[0].Kids[0].Kids[0] = n
	if _, wrong, e := checker.Tree(tree); e != api.OK || !slices.Equal(show(wrong), []string{"nodes 0-33", "depth 0-33"}) {
		t.Error(show(wrong), e)
	}
}
