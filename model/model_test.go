package model_test

import (
	"reflect"
	"slices"
	"strings"
	"testing"

	"confluent/api"
	"confluent/checker"
	"confluent/constraint"
	"confluent/effect"
	"confluent/instance"
	"confluent/model"
	"confluent/names"
)

const (
	chapter = "sort s 2; relation r(a: s); operation o(p: s) { require p != 0; insert r(p); }"
	// The strict cells are u 0 to 2, r 3 to 8, v 9 and 10, c 11 and 12, e 13 to 16; the convergent ones m 0 to 2, g 3, n 4, h 5 and 6.
	rich = "sort t 3; relation u(x: t); sort s 2; relation r(a: s, b: t); set m(a: t) addwins; relation v(x: s); register g() in -3..3 last; counter c(a: s) in -5..9; " +
		"set n() removewins; relation e(a: s, b: s); register h(a: s) in 0..9 multi; " +
		"invariant first: reference r(b) to u hide; invariant few: count r(a) <= 2; invariant order: acyclic e; operation move(p: s, n in -1..1, q: t) ordered { require n != 0; insert r(p, q); add 2 * n to c(p); put m(q); assign g() = n; hold sum(x: t) r(p, x) <= 1; } " +
		"invariant second: reference r(a) to v hide; operation idle() { } invariant third: reference v(x) to w; relation w(x: s); operation never(p: s) { require 1 == 2; } invariant fourth: reference v(x) to w hide; operation clear(p: s) { delete e(p, 0); drop n(); assign h(p) = 7; }"
)

func compile(t *testing.T, text string) api.Program {
	t.Helper()
	p, wrong, e := checker.Check(text)
	if e != api.OK || len(wrong) > 0 {
		t.Fatalf("%s is not accepted: %v, %d", text, wrong, e)
	}
	return p
}

func of(t *testing.T, text string) api.Model {
	t.Helper()
	m, e := model.Of(compile(t, text))
	if e != api.OK {
		t.Fatal(text, e)
	}
	return m
}

func row(bound int, pairs ...int) api.Row {
	r := api.Row{Bound: bound}
	for i := 0; i < len(pairs); i += 2 {
		r.Terms = append(r.Terms, api.Term{Cell: pairs[i], Factor: pairs[i+1]})
	}
	return r
}

func sameRow(a, b api.Row) bool { return a.Bound == b.Bound && slices.Equal(a.Terms, b.Terms) }

func sameEffect(a, b api.Effect) bool {
	return slices.Equal(a.Delta, b.Delta) && slices.EqualFunc(a.Hold, b.Hold, sameRow) && slices.Equal(a.Updates, b.Updates)
}

func sameTable(a, b api.Table) bool {
	return a.Name == b.Name && a.Kind == b.Kind && slices.Equal(a.Columns, b.Columns) && a.Range == b.Range && a.First == b.First
}

func sameConstraint(a, b api.Constraint) bool {
	return a.Kind == b.Kind && a.Family == b.Family && sameRow(a.Row, b.Row) && a.First == b.First && a.Size == b.Size
}

func sameOperation(a, b api.Operation) bool {
	return a.Name == b.Name && a.Ordered == b.Ordered && slices.Equal(a.Sorts, b.Sorts)
}

func sameAction(a, b api.Action) bool {
	return a.Operation == b.Operation && slices.Equal(a.Arguments, b.Arguments) && sameEffect(a.Effect, b.Effect)
}

// same reports whether two models are equal. Nil slices and empty ones mean the same.
func same(a, b api.Model) bool {
	return slices.Equal(a.Sorts, b.Sorts) && slices.EqualFunc(a.Tables, b.Tables, sameTable) && slices.Equal(a.Families, b.Families) && slices.EqualFunc(a.Constraints, b.Constraints, sameConstraint) &&
		slices.EqualFunc(a.Operations, b.Operations, sameOperation) && slices.EqualFunc(a.Actions, b.Actions, sameAction) && slices.Equal(a.Hides, b.Hides)
}

func TestP13_1Chapter(t *testing.T) {
	want := api.Model{
		Sorts: []int{2}, Tables: []api.Table{{Name: "r", Columns: []int{0}, Range: api.Range{Hi: 1}}}, Families: []string{"r"},
		Constraints: []api.Constraint{{Row: row(0, 0, -1)}, {Row: row(1, 0, 1)}, {Row: row(0, 1, -1)}, {Row: row(1, 1, 1)}},
		Operations:  []api.Operation{{Name: "o", Sorts: []int{0}}},
		Actions:     []api.Action{{Arguments: []int{1}, Effect: api.Effect{Delta: []api.Change{{Cell: 1, Add: 1}}}}},
	}
	if got := of(t, chapter); !same(got, want) || !model.Valid(got) {
		t.Errorf("%+v", got)
	}
}

func TestP13_1Parts(t *testing.T) {
	m := of(t, rich)
	if !slices.Equal(m.Sorts, []int{3, 2}) || !slices.EqualFunc(m.Tables, compile(t, rich).Tables, sameTable) || len(m.Tables) != 10 {
		t.Error(m.Sorts, m.Tables)
	}
	if want := []string{"u", "r", "v", "c", "e", "w", "first", "few", "order", "second", "third", "fourth"}; !slices.Equal(m.Families, want) {
		t.Error(m.Families)
	}
	// The ranges of 19 cells, and 2 rows of few, the graph and 2 rows of third.
	if len(m.Constraints) != 43 {
		t.Fatal(len(m.Constraints))
	}
	for i, want := range map[int]api.Constraint{
		0: {Row: row(0, 0, -1)}, 22: {Family: 3, Row: row(5, 11, -1)}, 25: {Family: 3, Row: row(9, 12, 1)}, 38: {Family: 7, Row: row(2, 3, 1, 4, 1, 5, 1)},
		40: {Kind: api.ConstraintAcyclic, Family: 8, First: 13, Size: 2}, 42: {Family: 10, Row: row(0, 10, 1, 18, -1)},
	} {
		if !sameConstraint(m.Constraints[i], want) {
			t.Error(i, m.Constraints[i])
		}
	}
	if want := []api.Operation{{Name: "move", Ordered: true, Sorts: []int{1, -1, 0}}, {Name: "idle"}, {Name: "never", Sorts: []int{1}}, {Name: "clear", Sorts: []int{1}}}; !slices.EqualFunc(m.Operations, want, sameOperation) {
		t.Error(m.Operations)
	}
	if want := []api.Hide{{Table: 1, Column: 1, To: 0}, {Table: 1, Column: 0, To: 3}, {Table: 3, Column: 0, To: 9}}; !slices.Equal(m.Hides, want) {
		t.Error(m.Hides)
	}
}

func TestP13_1Actions(t *testing.T) {
	m := of(t, rich)
	if len(m.Actions) != 15 {
		t.Fatal(m.Actions)
	}
	for i, want := range map[int]api.Action{
		0: {Arguments: []int{0, -1, 0}, Effect: api.Effect{
			Delta: []api.Change{{Cell: 3, Add: 1}, {Cell: 11, Add: -2}}, Hold: []api.Row{row(1, 3, 1, 4, 1, 5, 1)}, Updates: []api.Update{{Kind: api.UpdatePut}, {Kind: api.UpdateAssign, Cell: 3, Value: -1}},
		}},
		3: {Arguments: []int{0, 1, 0}, Effect: api.Effect{
			Delta: []api.Change{{Cell: 3, Add: 1}, {Cell: 11, Add: 2}}, Hold: []api.Row{row(1, 3, 1, 4, 1, 5, 1)}, Updates: []api.Update{{Kind: api.UpdatePut}, {Kind: api.UpdateAssign, Cell: 3, Value: 1}},
		}},
		11: {Arguments: []int{1, 1, 2}, Effect: api.Effect{
			Delta: []api.Change{{Cell: 8, Add: 1}, {Cell: 12, Add: 2}}, Hold: []api.Row{row(1, 6, 1, 7, 1, 8, 1)}, Updates: []api.Update{{Kind: api.UpdatePut, Cell: 2}, {Kind: api.UpdateAssign, Cell: 3, Value: 1}},
		}},
		12: {Operation: 1},
		14: {Operation: 3, Arguments: []int{1}, Effect: api.Effect{Delta: []api.Change{{Cell: 15, Add: -1}}, Updates: []api.Update{{Kind: api.UpdateDrop, Cell: 4}, {Kind: api.UpdateAssign, Cell: 6, Value: 7}}}},
	} {
		if !sameAction(m.Actions[i], want) {
			t.Errorf("%d: %+v, not %+v", i, m.Actions[i], want)
		}
	}
}

// defined returns the model of a program part by part, by the functions of the lower layers. The hides are given.
func defined(p api.Program, hides ...api.Hide) api.Model {
	m := api.Model{Tables: p.Tables, Families: constraint.Families(p), Hides: hides}
	for _, s := range p.Sorts {
		m.Sorts = append(m.Sorts, s.Size)
	}
	m.Constraints, _ = constraint.Of(p)
	for i, procedure := range p.Procedures {
		o := api.Operation{Name: procedure.Name, Ordered: procedure.Ordered}
		for _, parameter := range procedure.Parameters {
			o.Sorts = append(o.Sorts, parameter.Sort)
		}
		m.Operations = append(m.Operations, o)
		for _, arguments := range instance.Domain(p, i) {
			if done, e := effect.Of(p, i, arguments); e == api.OK {
				m.Actions = append(m.Actions, api.Action{Operation: i, Arguments: arguments, Effect: done})
			}
		}
	}
	return m
}

// programs returns accepted programs, some of them as large as programs can be, with their hides.
func programs() map[string][]api.Hide {
	all := map[string][]api.Hide{
		"": nil, "sort s 2;": nil, chapter: nil, rich: {{Table: 1, Column: 1, To: 0}, {Table: 1, Column: 0, To: 3}, {Table: 3, Column: 0, To: 9}},
		"operation o() { }": nil, "set m() addwins; operation o() { put m(); drop m(); }": nil,
		"invariant i: reference r(b) to v hide; invariant j: reference r(c) to v hide; invariant k: reference r(b) to u; set m() addwins; relation r(a: t, b: s, c: s); sort s 2; sort t 3; relation v(a: s); relation u(a: s);": {{Table: 1, Column: 1, To: 2}, {Table: 1, Column: 2, To: 2}},
		"sort s 6; sort t 4; relation r(a: t, b: t); relation u(a: t); relation v(a: t); invariant i: all(x: s, y: s, z: s) r(0, 0) <= 1; invariant j: all(x: s, y: s, z: s) r(0, 1) <= 1;":                                      nil,
		"counter c() in -9999..9999; invariant i: all() 1000 * c() <= -9999; operation o(n in -9999..-9998) { require n < 0; add -(1000 * 1000) to c(); hold 1000 * c() >= 1000 * 1000; hold c() - c() <= n; }":                  nil,
		"counter c() in 1..2; operation o(n in 1..256) { add n - 5 to c(); }": nil,
		"counter c() in 0..9; sort s 6; operation o() { for x: s { for y: s { for z: s { add 1000 * 1000 to c(); add 1000 * 1000 to c(); add 1000 * 1000 to c(); } } } } operation k() { }": nil,
	}
	long := "sort s 6; sort t 4; counter c(a: s, b: s, d: s) in 0..9;"
	all[strings.Replace(long, "counter c(a: s, b: s, d: s)", "relation r(a: t, b: t, c: t); counter c(a: t, b: t, d: t)", 1)] = nil
	all["sort s 6; set m(a: s) addwins; operation o() { for x: s { put m(x); drop m(x); put m(x); put m(0); put m(x); } } register g() in 0..9 multi; operation k(n in 0..9) { assign g() = 9 - n; }"] = nil
	return all
}

func TestP13_1AndP13_4Programs(t *testing.T) {
	for text, hides := range programs() {
		p, wrong, _ := checker.Check(text)
		if len(wrong) > 0 {
			t.Errorf("%s is not accepted: %v", text, wrong)
			continue
		}
		m, e := model.Of(p)
		if e != api.OK || !same(m, defined(p, hides...)) {
			t.Errorf("%s has the model %+v, %d", text, m, e)
		}
		if !model.Valid(m) {
			t.Errorf("the model of %s is not valid", text)
		}
	}
}

// strangers returns programs that are not those of their trees.
func strangers(t *testing.T) []api.Program {
	p := compile(t, rich)
	sizes, tables, invariants, fewer, ordered := p, p, p, p, p
	sizes.Sorts = []api.Sort{{Name: "t", Size: 3}, {Name: "s", Size: 3}}
	tables.Tables = slices.Clone(p.Tables)
	tables.Tables[0].Columns = []int{1}
	invariants.Invariants = slices.Clone(p.Invariants)
	invariants.Invariants[0].Node = 0
	fewer.Invariants = p.Invariants[:1]
	ordered.Procedures = slices.Clone(p.Procedures)
	ordered.Procedures[1].Ordered = true
	return []api.Program{{}, sizes, tables, invariants, fewer, ordered, {Tree: p.Tree}, {Tables: p.Tables}, {Tree: api.Node{Kind: 99}}, {Tree: p.Tree.Kids[0]}}
}

func TestP13_1Strangers(t *testing.T) {
	for i, p := range strangers(t) {
		if m, e := model.Of(p); e != api.ErrArg || !reflect.DeepEqual(m, api.Model{}) {
			t.Errorf("%d: %+v, %d", i, m, e)
		}
	}
}

func TestP13_4Rename(t *testing.T) {
	for _, text := range []string{chapter, rich} {
		p := compile(t, text)
		before := of(t, text)
		resolution, _, _ := names.Resolve(p.Tree)
		for i, d := range resolution.Declarations {
			tree, e := names.Rename(p.Tree, i, "fresh")
			q, wrong, _ := checker.Tree(tree)
			if e != api.OK || len(wrong) > 0 {
				t.Fatal(d, e, wrong)
			}
			after, e := model.Of(q)
			if e != api.OK || !model.Valid(after) {
				t.Error(d, e)
			}
			renamed := 0
			put := func(name *string, by string) {
				if *name != by {
					renamed++
				}
				*name = by
			}
			for k := range after.Tables {
				put(&after.Tables[k].Name, before.Tables[k].Name)
			}
			for k := range after.Families {
				put(&after.Families[k], before.Families[k])
			}
			for k := range after.Operations {
				put(&after.Operations[k].Name, before.Operations[k].Name)
			}
			if !same(after, before) {
				t.Errorf("with another name for %v the model is %+v", d, after)
			}
			if outer := d.Owner == -1 && d.Kind != api.DeclSort; (renamed > 0) != outer {
				t.Errorf("%v is %d names of the model", d, renamed)
			}
		}
	}
}

func TestP13_3Ranges(t *testing.T) {
	bit := api.Range{Hi: 1}
	m := of(t, rich)
	want := slices.Concat(slices.Repeat([]api.Range{bit}, 11), []api.Range{{Lo: -5, Hi: 9}, {Lo: -5, Hi: 9}}, slices.Repeat([]api.Range{bit}, 6))
	if got := model.Strict(m); !slices.Equal(got, want) {
		t.Error(got)
	}
	if got := model.Merged(m); !slices.Equal(got, []api.Range{bit, bit, bit, {Lo: -3, Hi: 3}, bit, {Hi: 9}, {Hi: 9}}) {
		t.Error(got)
	}
	if len(model.Strict(api.Model{})) > 0 || len(model.Merged(api.Model{})) > 0 {
		t.Error("a model without tables has cells")
	}
}

func TestP13_3Cell(t *testing.T) {
	m := of(t, rich)
	for cell, want := range map[int]string{0: "u(0)", 2: "u(2)", 3: "r(0, 0)", 8: "r(1, 2)", 9: "v(0)", 12: "c(1)", 15: "e(1, 0)", 18: "w(1)", 19: "", -1: "", 1 << 40: "", -1 << 63: ""} {
		if got := model.Cell(m, cell); got != want {
			t.Errorf("%d: %q, not %q", cell, got, want)
		}
	}
}

func TestP13_3Format(t *testing.T) {
	m := of(t, rich)
	for action, want := range map[int]string{0: "move(0, -1, 0)", 4: "move(0, 1, 1)", 11: "move(1, 1, 2)", 12: "idle()", 13: "clear(0)", 14: "clear(1)", 15: "", -1: "", 1 << 40: "", -1 << 63: ""} {
		if got := model.Format(m, action); got != want {
			t.Errorf("%d: %q, not %q", action, got, want)
		}
	}
}

func TestP13_3Find(t *testing.T) {
	m := of(t, rich)
	for text, want := range map[string]struct {
		action int
		e      api.Errno
	}{
		"move(0, -1, 0)": {0, api.OK}, " move ( 0001,\n1 , 02)# x": {11, api.OK}, "idle()": {12, api.OK}, "idle ( )": {12, api.OK}, "clear(01)": {14, api.OK}, "clear(-0)": {13, api.OK}, "move(-0, - 0001, 2)": {2, api.OK},
		"": {0, api.ErrSyntax}, "idle": {0, api.ErrSyntax}, "idle(": {0, api.ErrSyntax}, "idle());": {0, api.ErrSyntax}, "idle() idle()": {0, api.ErrSyntax}, "clear(p)": {0, api.ErrSyntax}, "clear(--1)": {0, api.ErrSyntax}, "clear(-)": {0, api.ErrSyntax}, "move(0, -1, 0,)": {0, api.ErrSyntax}, "move(0 -1, 0)": {0, api.ErrSyntax}, "insert(0)": {0, api.ErrSyntax}, "Idle()": {0, api.ErrSyntax}, "other(0": {0, api.ErrSyntax}, "idle()" + strings.Repeat(" ", api.MaxSource): {0, api.ErrSyntax},
		"r(0, 0)": {0, api.ErrName}, "first()": {0, api.ErrName}, "other(99999)": {0, api.ErrName}, "a_name_of_more_than_16()": {0, api.ErrName}, "clears(0)": {0, api.ErrName},
		"clear()": {0, api.ErrNotFound}, "clear(2)": {0, api.ErrNotFound}, "clear(-1)": {0, api.ErrNotFound}, "clear(0, 0)": {0, api.ErrNotFound}, "idle(0)": {0, api.ErrNotFound}, "move(0, 0, 0)": {0, api.ErrNotFound}, "move(0, 2, 0)": {0, api.ErrNotFound}, "never(0)": {0, api.ErrNotFound}, "clear(00000)": {0, api.ErrNotFound}, "clear(00001)": {0, api.ErrNotFound}, "move(0, -00001, 0)": {0, api.ErrNotFound}, "clear(18446744073709551616)": {0, api.ErrNotFound},
	} {
		if got, e := model.Find(m, text); got != want.action || e != want.e {
			t.Errorf("%.40q: %d, %d", text, got, e)
		}
	}
	// Numbers with more digits are none, also if arguments are as large as they can be.
	wide := of(t, "operation o(n in 9998..9999, m in -9999..-9998) { }")
	for text, want := range map[string]api.Errno{"o(9999, -9999)": api.OK, "o(10000, -9999)": api.ErrNotFound, "o(9999, -10000)": api.ErrNotFound, "o(09999, -9999)": api.ErrNotFound} {
		if _, e := model.Find(wide, text); e != want {
			t.Errorf("%q: %d", text, e)
		}
	}
}

func TestP13_4Texts(t *testing.T) {
	for text := range programs() {
		m := of(t, text)
		for action := range m.Actions {
			word := model.Format(m, action)
			for _, read := range []string{word, strings.ReplaceAll(word, " ", ""), strings.NewReplacer("(", " (\n", "-", "- ").Replace(word) + "#"} {
				if got, e := model.Find(m, read); got != action || e != api.OK {
					t.Errorf("%q is %d, %d, not %d", read, got, e, action)
				}
			}
		}
	}
}

func TestRulesMemory(t *testing.T) {
	p := compile(t, rich)
	a, _ := model.Of(p)
	b, _ := model.Of(p)
	spoil(a)
	c, _ := model.Of(p)
	if !same(b, c) || same(a, b) || !slices.EqualFunc(p.Tables, compile(t, rich).Tables, sameTable) || !slices.Equal(p.Sorts, compile(t, rich).Sorts) {
		t.Error("results share memory with arguments")
	}
	clear(model.Strict(b))
	clear(model.Merged(b))
	model.Valid(b)
	model.Format(b, 3)
	model.Find(b, "clear(1)")
	model.Cell(b, 3)
	if !same(b, c) {
		t.Error("arguments have changed")
	}
}

// spoil changes all numbers and names of a model.
func spoil(m api.Model) {
	clear(m.Sorts)
	for i := range m.Tables {
		clear(m.Tables[i].Columns)
	}
	clear(m.Tables)
	clear(m.Families)
	for i := range m.Constraints {
		clear(m.Constraints[i].Row.Terms)
	}
	for i := range m.Operations {
		clear(m.Operations[i].Sorts)
	}
	for _, a := range m.Actions {
		clear(a.Arguments)
		clear(a.Effect.Delta)
		clear(a.Effect.Updates)
		for _, r := range a.Effect.Hold {
			clear(r.Terms)
		}
	}
	clear(m.Hides)
}
