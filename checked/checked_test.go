package checked_test

import (
	"slices"
	"testing"

	"confluent/api"
	"confluent/checked"
	"confluent/checker"
)

func compile(t *testing.T) api.Program {
	t.Helper()
	p, wrong, e := checker.Check("sort s 2; sort t 3; relation r(a: s); counter c(b: t) in 0..9; invariant i: key r(); operation o(p: s, n in 1..2) ordered { insert r(p); }")
	if e != api.OK || len(wrong) > 0 {
		t.Fatal(wrong, e)
	}
	return p
}

func TestP1Program(t *testing.T) {
	if !checked.Program(compile(t)) {
		t.Error("a checked program is not recognized")
	}
	empty, _, _ := checker.Check("")
	if !checked.Program(empty) {
		t.Error("a program without declarations is not recognized")
	}
	for i, change := range []func(p *api.Program){
		func(p *api.Program) { *p = api.Program{} },
		func(p *api.Program) { *p = api.Program{Tree: p.Tree} },
		func(p *api.Program) { p.Tree = p.Tree.Kids[0] },
		func(p *api.Program) { p.Tree.Kids = p.Tree.Kids[1:] },
		func(p *api.Program) { p.Tree.Kids = p.Tree.Kids[:5] },
		func(p *api.Program) { p.Sorts[0].Size = 3 },
		func(p *api.Program) { p.Sorts[1].Name = "u" },
		func(p *api.Program) { p.Sorts = append(p.Sorts, api.Sort{Name: "u", Size: 1}) },
		func(p *api.Program) { p.Tables[0].Name = "q" },
		func(p *api.Program) { p.Tables[0].Kind = api.TableCounter },
		func(p *api.Program) { p.Tables[0].Columns = []int{1} },
		func(p *api.Program) { p.Tables[1].Columns = nil },
		func(p *api.Program) { p.Tables[1].Range.Hi = 10 },
		func(p *api.Program) { p.Tables[1].First = 0 },
		func(p *api.Program) { p.Tables = p.Tables[:1] },
		func(p *api.Program) { p.Invariants[0].Name = "k" },
		func(p *api.Program) { p.Invariants[0].Node++ },
		func(p *api.Program) { p.Invariants = nil },
		func(p *api.Program) { p.Procedures[0].Name = "q" },
		func(p *api.Program) { p.Procedures[0].Ordered = false },
		func(p *api.Program) { p.Procedures[0].Node-- },
		func(p *api.Program) { p.Procedures[0].Parameters = p.Procedures[0].Parameters[:1] },
		func(p *api.Program) { p.Procedures[0].Parameters[1].Range.Lo = 0 },
		func(p *api.Program) { p.Procedures = append(p.Procedures, p.Procedures[0]) },
	} {
		p := compile(t)
		change(&p)
		if checked.Program(p) {
			t.Errorf("%d is recognized", i)
		}
	}
	same := compile(t)
	same.Tables[1].Columns = slices.Clone(same.Tables[1].Columns)
	if !checked.Program(same) {
		t.Error("an equal program is not recognized")
	}
}

func TestP12_1AndP13_1Column(t *testing.T) {
	p, wrong, e := checker.Check("invariant b: key r(); sort a 2; relation q(b: a, a: a); counter c(b: a) in 0..9; relation r(x: a, b: a, q: a); operation o() { }")
	if e != api.OK || len(wrong) > 0 {
		t.Fatal(wrong, e)
	}
	for i, c := range []struct {
		table, name string
		want        int
	}{{"q", "b", 0}, {"q", "a", 1}, {"c", "b", 0}, {"r", "x", 0}, {"r", "b", 1}, {"r", "q", 2}} {
		if got := checked.Column(p, c.table, c.name); got != c.want {
			t.Errorf("%d: %d", i, got)
		}
	}
}
