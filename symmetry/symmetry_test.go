package symmetry_test

import (
	"math/rand"
	"reflect"
	"slices"
	"testing"

	"confluent/api"
	"confluent/cells"
	"confluent/checker"
	"confluent/model"
	"confluent/symmetry"
)

const (
	chapter = "sort s 3; relation r(a: s); operation mark(x: s) { insert r(x); }"
	// The strict cells are r 0 to 5, c 6 to 8, e 9 to 17, z 18 to 21; the convergent ones m 0 to 5, g 6 and 7, h 8.
	rich = "sort s 3; sort t 2; sort u 4; relation r(a: s, b: t); set m(b: t, a: s) addwins; counter c(a: s) in -2..3; relation e(a: s, b: s); register g(a: t) in 0..5 last; relation z(a: u); register h() in 0..9 multi; " +
		"invariant few: count r(a) <= 1; invariant order: acyclic e; invariant room: all(x: s) c(x) + 2 * z(0) <= 4; invariant whole: count z() >= 0; " +
		"operation take(p: s, q: t, n in 0..1) { insert r(p, q); add n to c(p); put m(q, p); hold c(p) >= 0; hold sum(x: t) r(p, x) <= n; } operation link(p: s, q: s) { require p != q; insert e(p, q); hold e(q, p) <= 0; hold c(p) <= 1; hold e(q, p) <= 0; } " +
		"operation mark(p: u) { insert z(p); assign h() = 3; hold sum(x: u) z(x) <= 2; } operation clear(q: t) { assign g(q) = 4; for x: s { drop m(q, x); } } operation rest() ordered { }"
)

func of(t *testing.T, text string) api.Model {
	t.Helper()
	p, wrong, e := checker.Check(text)
	if e != api.OK || len(wrong) > 0 {
		t.Fatalf("%s is not accepted: %v, %d", text, wrong, e)
	}
	m, e := model.Of(p)
	if e != api.OK {
		t.Fatal(text, e)
	}
	return m
}

// broken returns models that are not valid.
func broken(t *testing.T) []api.Model {
	sizes, family, effects := of(t, chapter), of(t, chapter), of(t, chapter)
	sizes.Sorts[0] = 7
	family.Constraints[4].Family = 9
	effects.Actions[0].Effect.Delta[0].Add = 0
	return []api.Model{sizes, family, effects, {Sorts: []int{3}, Families: []string{""}}}
}

func swap(sort, a, b int) api.Swap { return api.Swap{Sort: sort, A: a, B: b} }

func onConstraint(e, f, index int) api.Question {
	return api.Question{E: e, F: f, Target: api.Target{Index: index}}
}

func onHold(e, f, index int) api.Question {
	return api.Question{E: e, F: f, Target: api.Target{Hold: true, Index: index}}
}

func row(bound int, pairs ...int) api.Row {
	r := api.Row{Bound: bound}
	for i := 0; i < len(pairs); i += 2 {
		r.Terms = append(r.Terms, api.Term{Cell: pairs[i], Factor: pairs[i+1]})
	}
	return r
}

func sameRow(a, b api.Row) bool { return a.Bound == b.Bound && slices.Equal(a.Terms, b.Terms) }

func find(t *testing.T, m api.Model, text string) int {
	t.Helper()
	action, e := model.Find(m, text)
	if e != api.OK {
		t.Fatal(text, e)
	}
	return action
}

func TestP16_1Less(t *testing.T) {
	const least, greatest = -1 << 63, 1<<63 - 1
	// In order.
	list := []api.Question{
		onConstraint(least, greatest, greatest), onConstraint(-5, 3, 3), onConstraint(0, least, 9), onConstraint(0, 0, least), onConstraint(0, 0, -1), onConstraint(0, 0, 0), onConstraint(0, 0, 7), onConstraint(0, 0, greatest),
		onHold(0, 0, least), onHold(0, 0, 0), onHold(0, 0, 2), onConstraint(0, 1, 0), onHold(0, 1, -1), onHold(0, 1, 0), onConstraint(0, 9, 3), onConstraint(1, 0, 0), onHold(1, 0, 0), onConstraint(1, 2, 0), onHold(greatest, least, least), onHold(greatest, greatest, greatest),
	}
	for i, a := range list {
		for k, b := range list {
			if got := symmetry.Less(a, b); got != (i < k) {
				t.Errorf("%v comes before %v: %v", a, b, got)
			}
		}
	}
}

func TestP16_1Valid(t *testing.T) {
	m := of(t, rich)
	all := map[api.Question]bool{}
	for _, q := range questions(m) {
		all[q] = true
	}
	count := 0
	for e := -1; e <= len(m.Actions); e++ {
		for f := -1; f <= len(m.Actions); f++ {
			for _, index := range []int{-1, 0, 1, 2, 3, len(m.Constraints) - 1, len(m.Constraints)} {
				for _, q := range []api.Question{onConstraint(e, f, index), onHold(e, f, index)} {
					if got := symmetry.Valid(m, q); got != all[q] {
						t.Errorf("%v is a question: %v", q, got)
					}
					count++
				}
			}
		}
	}
	if count < 5000 {
		t.Error("only", count)
	}
	for _, q := range []api.Question{onConstraint(1<<62, 1<<62, 0), onConstraint(0, 1<<62, 0), onConstraint(-1<<63, 0, 0), onConstraint(0, 0, 1<<62), onHold(0, -1<<63, 0), onHold(0, 0, -1<<63)} {
		if symmetry.Valid(m, q) {
			t.Errorf("%v is a question", q)
		}
	}
	for i, m := range broken(t) {
		if symmetry.Valid(m, onConstraint(0, 0, 0)) {
			t.Errorf("%d has a question", i)
		}
	}
	if symmetry.Valid(api.Model{}, api.Question{}) {
		t.Error("a model without actions has a question")
	}
}

func TestP16_2Cells(t *testing.T) {
	m := of(t, rich)
	for _, c := range []struct {
		s        api.Swap
		from, to string
	}{
		{swap(0, 0, 2), "r(0, 1)", "r(2, 1)"}, {swap(0, 0, 2), "r(1, 1)", "r(1, 1)"}, {swap(1, 0, 1), "r(1, 0)", "r(1, 1)"}, {swap(0, 0, 2), "e(0, 2)", "e(2, 0)"}, {swap(0, 1, 2), "e(1, 1)", "e(2, 2)"},
		{swap(1, 0, 1), "e(0, 1)", "e(0, 1)"}, {swap(2, 0, 3), "z(3)", "z(0)"}, {swap(2, 0, 1), "c(1)", "c(1)"}, {swap(0, 0, 1), "c(1)", "c(0)"},
	} {
		_, from, _ := cells.Parse(m.Sorts, m.Tables, c.from)
		_, to, _ := cells.Parse(m.Sorts, m.Tables, c.to)
		if got, ok := symmetry.Cell(m, c.s, from); got != to || !ok {
			t.Errorf("%v: %s becomes %s, %v", c.s, c.from, model.Cell(m, got), ok)
		}
	}
	random := rand.New(rand.NewSource(1))
	for _, s := range every(m) {
		list, want := make([]int, 22), make([]int, 22)
		for cell := range list {
			list[cell] = random.Intn(1<<40) - 1<<39
			to := cellOf(m, s, true, cell)
			if got, ok := symmetry.Cell(m, s, cell); got != to || !ok {
				t.Errorf("%v: %d becomes %d, %v", s, cell, got, ok)
			}
			want[to] = list[cell]
		}
		if got, ok := symmetry.State(m, s, list); !slices.Equal(got, want) || !ok {
			t.Errorf("%v: %v becomes %v, %v", s, list, got, ok)
		}
		for _, cell := range []int{-1, 22, 1 << 62, -1 << 63} {
			if got, ok := symmetry.Cell(m, s, cell); got != 0 || ok {
				t.Errorf("%v: %d becomes %d, %v", s, cell, got, ok)
			}
		}
		for _, l := range [][]int{nil, list[1:], append(list, 0)} {
			if got, ok := symmetry.State(m, s, l); len(got) > 0 || ok {
				t.Errorf("%v: %v becomes %v, %v", s, l, got, ok)
			}
		}
	}
	if got, ok := symmetry.State(api.Model{Sorts: []int{2}}, swap(0, 0, 1), nil); len(got) > 0 || !ok {
		t.Error("without cells:", got, ok)
	}
}

func TestP16_2Rows(t *testing.T) {
	m := of(t, rich)
	random := rand.New(rand.NewSource(2))
	for _, s := range every(m) {
		for range 50 {
			r := api.Row{Bound: random.Intn(1<<40) - 1<<39}
			for cell := range 22 {
				if random.Intn(3) == 0 {
					r.Terms = append(r.Terms, api.Term{Cell: cell, Factor: random.Intn(7) - 3})
				}
			}
			if got, ok := symmetry.Row(m, s, r); !sameRow(got, rowOf(m, s, r)) || !ok {
				t.Fatalf("%v: %v becomes %v, %v", s, r, got, ok)
			}
		}
	}
	s := swap(0, 0, 2)
	for _, c := range []struct{ from, to api.Row }{
		{row(4), row(4)}, {row(-1<<63, 0, 1<<63-1), row(-1<<63, 4, 1<<63-1)}, {row(1, 0, 5, 1, 6, 4, 7, 18, 0), row(1, 0, 7, 4, 5, 5, 6, 18, 0)},
	} {
		if got, ok := symmetry.Row(m, s, c.from); !sameRow(got, c.to) || !ok {
			t.Errorf("%v becomes %v, %v", c.from, got, ok)
		}
	}
	for _, r := range []api.Row{row(0, -1, 1), row(0, 22, 1), row(0, 0, 1, 22, 1), row(0, 3, 1, 3, 1), row(0, 4, 1, 3, 1), row(0, 0, 1, 5, 1, 4, 1), row(0, -1<<63, 1), row(0, 1<<62, 1)} {
		if got, ok := symmetry.Row(m, s, r); !sameRow(got, api.Row{}) || ok {
			t.Errorf("%v becomes %v, %v", r, got, ok)
		}
	}
}

func TestP16_3Actions(t *testing.T) {
	m := of(t, rich)
	for _, c := range []struct {
		s        api.Swap
		from, to string
	}{
		{swap(0, 0, 2), "take(0, 1, 1)", "take(2, 1, 1)"}, {swap(1, 0, 1), "take(0, 1, 1)", "take(0, 0, 1)"}, {swap(2, 0, 1), "take(0, 1, 1)", "take(0, 1, 1)"}, {swap(0, 1, 2), "link(1, 0)", "link(2, 0)"}, {swap(0, 0, 2), "link(2, 0)", "link(0, 2)"},
		{swap(2, 0, 3), "mark(0)", "mark(3)"}, {swap(1, 0, 1), "clear(1)", "clear(0)"}, {swap(0, 0, 1), "clear(1)", "clear(1)"}, {swap(0, 0, 1), "rest()", "rest()"},
	} {
		if got, ok := symmetry.Action(m, c.s, find(t, m, c.from)); got != find(t, m, c.to) || !ok {
			t.Errorf("%v: %s becomes %s, %v", c.s, c.from, model.Format(m, got), ok)
		}
	}
	for _, action := range []int{-1, len(m.Actions), 1 << 62, -1 << 63} {
		if got, ok := symmetry.Action(m, swap(0, 0, 1), action); got != 0 || ok {
			t.Errorf("%d becomes %d, %v", action, got, ok)
		}
	}
	for _, constraint := range []int{-1, len(m.Constraints), 1 << 62, -1 << 63} {
		if got, ok := symmetry.Constraint(m, swap(0, 0, 1), constraint); got != 0 || ok {
			t.Errorf("%d becomes %d, %v", constraint, got, ok)
		}
	}
	for _, q := range []api.Question{onConstraint(1, 0, 0), onConstraint(0, len(m.Actions), 0), onConstraint(-1, 0, 0), onConstraint(0, 0, len(m.Constraints)), onHold(0, 0, 2), onHold(0, 0, -1)} {
		if got, ok := symmetry.Question(m, swap(0, 0, 1), q); got != (api.Question{}) || ok {
			t.Errorf("%v becomes %v, %v", q, got, ok)
		}
	}
}

// An action becomes another one only if the changed effect is alike to that of the other one.
func TestP16_3Alike(t *testing.T) {
	for i, c := range []struct {
		change func(x *api.Effect)
		want   bool
	}{
		{func(x *api.Effect) {}, true},
		{func(x *api.Effect) { slices.Reverse(x.Hold) }, true},
		{func(x *api.Effect) { x.Hold[0], x.Hold[1] = x.Hold[1], x.Hold[0] }, true},
		{func(x *api.Effect) { x.Hold = x.Hold[1:] }, false},
		{func(x *api.Effect) { x.Hold = nil }, false},
		{func(x *api.Effect) { x.Hold = append(x.Hold, x.Hold[0]) }, false},
		{func(x *api.Effect) { x.Hold = append(x.Hold, x.Hold[1]) }, false},
		{func(x *api.Effect) { x.Hold[1] = x.Hold[0] }, false},
		{func(x *api.Effect) { x.Hold[2] = x.Hold[1] }, false},
		{func(x *api.Effect) { x.Hold[1].Bound++ }, false},
		{func(x *api.Effect) { x.Hold[1].Terms[0].Factor++ }, false},
		{func(x *api.Effect) { x.Delta = nil }, false},
		{func(x *api.Effect) { x.Delta[0].Add++ }, false},
		{func(x *api.Effect) { x.Delta[0].Cell-- }, false},
		{func(x *api.Effect) { x.Delta = append(x.Delta, api.Change{Cell: 18, Add: 1}) }, false},
		{func(x *api.Effect) { x.Updates = []api.Update{{Kind: api.UpdatePut, Cell: 0}} }, false},
		{func(x *api.Effect) { x.Updates = []api.Update{{Kind: api.UpdateAssign, Cell: 8}} }, false},
	} {
		m := of(t, rich)
		from, to := find(t, m, "link(0, 1)"), find(t, m, "link(2, 1)")
		c.change(&m.Actions[from].Effect)
		if !model.Valid(m) {
			t.Fatal(i)
		}
		for _, pair := range [][2]int{{from, to}, {to, from}} {
			want := pair[1]
			if !c.want {
				want = 0
			}
			if got, ok := symmetry.Action(m, swap(0, 0, 2), pair[0]); got != want || ok != c.want {
				t.Errorf("%d: %d becomes %d, %v", i, pair[0], got, ok)
			}
		}
		if got := symmetry.Holds(m, swap(0, 0, 2)); got != c.want {
			t.Errorf("%d is a symmetry: %v", i, got)
		}
	}
	// Updates count with their kinds, cells and values; an action that is not there is none.
	for i, c := range []struct {
		change func(m *api.Model, x *api.Effect)
		want   bool
	}{
		{func(m *api.Model, x *api.Effect) {}, true},
		{func(m *api.Model, x *api.Effect) { x.Updates[0].Kind = api.UpdatePut }, false},
		{func(m *api.Model, x *api.Effect) { x.Updates = x.Updates[1:] }, false},
		{func(m *api.Model, x *api.Effect) { x.Updates[3].Value = 0 }, false},
		{func(m *api.Model, x *api.Effect) { x.Updates[3].Cell = 8 }, false},
		{func(m *api.Model, x *api.Effect) { m.Actions = slices.Delete(m.Actions, 22, 23) }, false},
	} {
		m := of(t, rich)
		action := find(t, m, "clear(0)")
		if action != 22 {
			t.Fatal(action)
		}
		c.change(&m, &m.Actions[22].Effect)
		if !model.Valid(m) {
			t.Fatal(i)
		}
		if got, ok := symmetry.Action(m, swap(1, 0, 1), find(t, m, "clear(1)")); ok != c.want || !ok && got != 0 || ok && got != 22 {
			t.Errorf("%d: clear(1) becomes %d, %v", i, got, ok)
		}
	}
}

func TestP16_3Constraints(t *testing.T) {
	m := of(t, rich)
	first := 2 * 22
	// few 44 to 46, order 47, room 48 to 50, whole 51
	for _, c := range []struct {
		s        api.Swap
		from, to int
	}{
		{swap(0, 0, 2), 0, 8}, {swap(0, 0, 2), 3, 11}, {swap(1, 0, 1), 1, 3}, {swap(0, 1, 2), first + 1, first + 2}, {swap(0, 1, 2), first, first}, {swap(1, 0, 1), first, first}, {swap(0, 0, 1), first + 3, first + 3}, {swap(0, 0, 2), first + 4, first + 6}, {swap(2, 1, 2), first + 5, first + 5}, {swap(2, 0, 2), first + 7, first + 7},
	} {
		if got, ok := symmetry.Constraint(m, c.s, c.from); got != c.to || !ok {
			t.Errorf("%v: %d becomes %d, %v", c.s, c.from, got, ok)
		}
	}
	for i := range 3 {
		if got, ok := symmetry.Constraint(m, swap(2, 0, 2), first+4+i); got != 0 || ok {
			t.Errorf("%d becomes %d, %v", first+4+i, got, ok)
		}
	}
	// Equal rows of a family are told apart by their order, others of the same words are none of them.
	m.Constraints = append(m.Constraints[:first:first],
		api.Constraint{Family: 4, Row: row(3, 18, 1)}, api.Constraint{Family: 4, Row: row(3, 19, 1)}, api.Constraint{Family: 5, Row: row(3, 18, 1)}, api.Constraint{Family: 4, Row: row(3, 18, 1)}, api.Constraint{Kind: api.ConstraintAcyclic, Family: 4, First: 9, Size: 3},
		api.Constraint{Family: 4, Row: row(3, 19, 1)}, api.Constraint{Family: 4, Row: row(4, 19, 1)}, api.Constraint{Family: 4, Row: row(3, 18, 2)}, api.Constraint{Family: 4, Row: row(3, 19, 1)}, api.Constraint{Family: 4}, api.Constraint{Family: 4})
	s := swap(2, 0, 1)
	for from, to := range []int{1, 0, -1, 5, 4, 3, -1, -1, -1, 9, 10} {
		got, ok := symmetry.Constraint(m, s, first+from)
		if ok != (to >= 0) || ok && got != first+to || !ok && got != 0 {
			t.Errorf("%d becomes %d, %v", first+from, got, ok)
		}
		onto, moved := symmetry.Question(m, s, onConstraint(2, 5, first+from))
		if moved != ok || ok && onto != onConstraint(2, 5, first+to) || !ok && onto != (api.Question{}) {
			t.Errorf("the question about %d becomes %v, %v", first+from, onto, moved)
		}
	}
}

// Rows are told apart also where their numbers would make the same text if nothing stood between them.
func TestP16_3Rows(t *testing.T) {
	m := of(t, "sort s 6; sort t 2; relation r(a: s, b: t);")
	for i := range 12 {
		m.Families = append(m.Families, "more"+string(rune('a'+i)))
	}
	first := len(m.Constraints)
	s := swap(1, 0, 1)
	for i, c := range []struct{ from, changed, other api.Constraint }{
		{api.Constraint{Row: row(0, 0, 12)}, api.Constraint{Row: row(0, 1, 12)}, api.Constraint{Row: row(0, 11, 2)}},
		{api.Constraint{Row: row(5, 10, 3)}, api.Constraint{Row: row(5, 11, 3)}, api.Constraint{Row: row(51, 1, 3)}},
		{api.Constraint{Row: row(12, 0, 1), Family: 1}, api.Constraint{Row: row(12, 1, 1), Family: 1}, api.Constraint{Row: row(2, 1, 1), Family: 11}},
		{api.Constraint{Row: row(12, 0, 1), Family: 1}, api.Constraint{Row: row(12, 1, 1), Family: 1}, api.Constraint{Row: row(12, 1, 1), Family: 2}},
		{api.Constraint{Row: row(0, 0, 2)}, api.Constraint{Row: row(0, 1, 2)}, api.Constraint{Row: row(0, 1, 3)}},
		{api.Constraint{Row: row(2, 0, 2)}, api.Constraint{Row: row(2, 1, 2)}, api.Constraint{Row: row(3, 1, 2)}},
		{api.Constraint{Row: row(0, 0, 1)}, api.Constraint{Row: row(0, 1, 1)}, api.Constraint{Row: row(0, 1, -1)}},
		{api.Constraint{Row: row(0, 0, 1, 2, 1)}, api.Constraint{Row: row(0, 1, 1, 3, 1)}, api.Constraint{Row: row(0, 1, 1)}},
	} {
		m.Constraints = append(m.Constraints[:first:first], c.other, c.from)
		if got, ok := symmetry.Constraint(m, s, first+1); got != 0 || ok {
			t.Errorf("%d becomes %d, %v", i, got, ok)
		}
		m.Constraints = append(m.Constraints, c.changed)
		if got, ok := symmetry.Constraint(m, s, first+1); got != first+2 || !ok {
			t.Errorf("%d becomes %d, %v", i, got, ok)
		}
	}
}

func TestP16_3Questions(t *testing.T) {
	m := of(t, rich)
	// take(0, 0, 0) 0 .. take(2, 1, 1) 11, link(0, 1) 12, link(0, 2) 13, link(1, 0) 14, link(1, 2) 15, link(2, 0) 16, link(2, 1) 17, mark 18 to 21, clear 22 and 23, rest 24
	for _, c := range []struct {
		s        api.Swap
		from, to api.Question
	}{
		{swap(0, 0, 2), onConstraint(0, 4, 1), onConstraint(4, 8, 9)}, {swap(0, 0, 2), onConstraint(0, 8, 44), onConstraint(0, 8, 46)}, {swap(0, 0, 2), onConstraint(12, 12, 47), onConstraint(17, 17, 47)}, {swap(0, 0, 2), onConstraint(13, 24, 0), onConstraint(16, 24, 8)},
		{swap(1, 0, 1), onHold(2, 0, 1), onHold(0, 2, 1)}, {swap(0, 0, 2), onHold(0, 8, 0), onHold(8, 0, 0)}, {swap(0, 0, 2), onHold(12, 18, 2), onHold(17, 18, 2)}, {swap(0, 0, 2), onHold(12, 18, 0), onHold(17, 18, 0)}, {swap(2, 2, 3), onHold(18, 20, 0), onHold(18, 21, 0)},
	} {
		if got, ok := symmetry.Question(m, c.s, c.from); got != c.to || !ok {
			t.Errorf("%v: %v becomes %v, %v", c.s, c.from, got, ok)
		}
	}
	// Equal hold rows are told apart by their order, also where they stand in another order.
	slices.Reverse(m.Actions[17].Effect.Hold[:2])
	for from, to := range []int{1, 0, 2} {
		if got, ok := symmetry.Question(m, swap(0, 0, 2), onHold(12, 18, from)); got != onHold(17, 18, to) || !ok {
			t.Errorf("the row %d becomes %v, %v", from, got, ok)
		}
		if got, ok := symmetry.Question(m, swap(0, 0, 2), onHold(17, 18, to)); got != onHold(12, 18, from) || !ok {
			t.Errorf("the row %d becomes %v, %v", to, got, ok)
		}
	}
	// Without one of the actions there is no such question.
	m.Actions[17].Effect.Delta[0].Add = 2
	for _, q := range []api.Question{onConstraint(0, 12, 0), onConstraint(12, 18, 0), onHold(12, 18, 0), onHold(18, 12, 0)} {
		if got, ok := symmetry.Question(m, swap(0, 0, 2), q); got != (api.Question{}) || ok {
			t.Errorf("%v becomes %v, %v", q, got, ok)
		}
	}
}

func TestP16_4Examples(t *testing.T) {
	for text, want := range map[string][]api.Swap{
		"": nil, "sort s 1;": nil, chapter: {swap(0, 0, 1), swap(0, 0, 2), swap(0, 1, 2)}, "sort s 2; sort t 3;": {swap(0, 0, 1), swap(1, 0, 1), swap(1, 0, 2), swap(1, 1, 2)},
		rich: {swap(0, 0, 1), swap(0, 0, 2), swap(0, 1, 2), swap(1, 0, 1), swap(2, 1, 2), swap(2, 1, 3), swap(2, 2, 3)},
		// An element that a program names stands alone.
		"sort s 4; relation r(a: s); invariant i: all() r(2) <= 1;":                                                      {swap(0, 0, 1), swap(0, 0, 3), swap(0, 1, 3)},
		"sort s 4; relation r(a: s); operation o(p: s) { require p != 2; require p != 3; insert r(p); }":                 {swap(0, 0, 1), swap(0, 2, 3)},
		"sort s 4; relation r(a: s); operation o(p: s) { require p != 3; insert r(p); }":                                 {swap(0, 0, 1), swap(0, 0, 2), swap(0, 1, 2)},
		"sort s 4; sort t 2; relation r(a: s, b: t); operation o(p: s) { insert r(p, 1); }":                              {swap(0, 0, 1), swap(0, 0, 2), swap(0, 0, 3), swap(0, 1, 2), swap(0, 1, 3), swap(0, 2, 3)},
		"sort s 3; set m(a: s) addwins; operation o(p: s) { put m(p); drop m(0); }":                                      {swap(0, 1, 2)},
		"sort s 3; register g(a: s) in 0..5 last; operation o(p: s) { assign g(p) = 4; }":                                {swap(0, 0, 1), swap(0, 0, 2), swap(0, 1, 2)},
		"sort s 3; relation e(a: s, b: s); invariant i: acyclic e; operation o(p: s, q: s) { insert e(p, q); }":          {swap(0, 0, 1), swap(0, 0, 2), swap(0, 1, 2)},
		"sort s 2; relation q(a: s, b: s); invariant i: all() 2 * q(0, 1) - 2 * q(1, 0) <= 1;":                           nil,
		"sort s 2; relation q(a: s, b: s); invariant i: all() q(0, 0) + q(1, 1) <= 1; operation o() { insert q(0, 1); }": nil,
	} {
		m := of(t, text)
		if got := symmetry.Swaps(m); !slices.Equal(got, want) {
			t.Errorf("%s: %v, not %v", text, got, want)
		}
		for _, s := range every(m) {
			if got := symmetry.Holds(m, s); got != slices.Contains(want, s) {
				t.Errorf("%s: %v is a symmetry: %v", text, s, got)
			}
		}
	}
}

func TestRulesStrangers(t *testing.T) {
	m := of(t, rich)
	for _, s := range []api.Swap{swap(-1, 0, 1), swap(3, 0, 1), swap(0, 0, 0), swap(0, 1, 0), swap(0, -1, 1), swap(0, 0, 3), swap(1, 0, 2), swap(1, 1, 1), swap(1<<62, 0, 1), swap(0, 0, 1<<62), swap(0, -1<<63, 0)} {
		none(t, m, s)
	}
	for i, m := range broken(t) {
		if swaps := symmetry.Swaps(m); len(swaps) > 0 {
			t.Errorf("%d has symmetries", i)
		}
		if orbit := symmetry.Orbit(m, api.Question{}); len(orbit) > 0 {
			t.Errorf("%d has an orbit", i)
		}
		if q, way := symmetry.Representative(m, onConstraint(1, 1, 1)); q != (api.Question{}) || len(way) > 0 {
			t.Errorf("%d has a representative", i)
		}
		none(t, m, swap(0, 0, 1))
	}
	for _, q := range []api.Question{onConstraint(1, 0, 0), onConstraint(-1, 0, 0), onConstraint(0, 0, 52), onHold(0, 0, 2), onHold(24, 0, 0), onHold(0, 25, 0)} {
		if orbit := symmetry.Orbit(m, q); len(orbit) > 0 {
			t.Errorf("%v has an orbit", q)
		}
		if first, way := symmetry.Representative(m, q); first != (api.Question{}) || len(way) > 0 {
			t.Errorf("%v has a representative", q)
		}
	}
}

// none reports a result for a swap that is none of a model.
func none(t *testing.T, m api.Model, s api.Swap) {
	t.Helper()
	cell, isCell := symmetry.Cell(m, s, 1)
	action, isAction := symmetry.Action(m, s, 1)
	constraint, isConstraint := symmetry.Constraint(m, s, 1)
	if cell != 0 || isCell || action != 0 || isAction || constraint != 0 || isConstraint || symmetry.Holds(m, s) {
		t.Errorf("%v: %d %v, %d %v, %d %v", s, cell, isCell, action, isAction, constraint, isConstraint)
	}
	list, isState := symmetry.State(m, s, make([]int, cells.Count(m.Sorts, m.Tables, true)))
	r, isRow := symmetry.Row(m, s, row(3, 0, 1))
	q, isQuestion := symmetry.Question(m, s, onConstraint(1, 1, 1))
	if len(list) > 0 || isState || !sameRow(r, api.Row{}) || isRow || q != (api.Question{}) || isQuestion {
		t.Errorf("%v: %v %v, %v %v, %v %v", s, list, isState, r, isRow, q, isQuestion)
	}
}

func TestP16_5Chapter(t *testing.T) {
	m := of(t, chapter)
	orbit := []api.Question{onConstraint(0, 0, 1), onConstraint(1, 1, 3), onConstraint(2, 2, 5)}
	ways := [][]api.Swap{nil, {swap(0, 0, 1)}, {swap(0, 0, 2)}}
	for i, q := range orbit {
		if got := symmetry.Orbit(m, q); !slices.Equal(got, orbit) {
			t.Errorf("%v: %v", q, got)
		}
		if first, way := symmetry.Representative(m, q); first != orbit[0] || !slices.Equal(way, ways[i]) {
			t.Errorf("%v: %v, %v", q, first, way)
		}
	}
}

func TestP16_5Ways(t *testing.T) {
	m := of(t, "sort s 6; relation r(a: s); relation e(a: s, b: s); operation mark(x: s) { insert r(x); } operation link(x: s, y: s) { insert e(x, y); hold r(x) >= 1; hold r(y) >= 1; }")
	at := func(x, y int) int { return 6 + 6*x + y }
	for _, c := range []struct {
		q, first api.Question
		way      []api.Swap
		orbit    int
	}{
		{onConstraint(0, 1, 5), onConstraint(0, 1, 5), nil, 6 * 5 / 2 * 4},
		{onConstraint(3, 5, 9), onConstraint(0, 1, 5), []api.Swap{swap(0, 0, 3), swap(0, 1, 5), swap(0, 2, 4)}, 6 * 5 / 2 * 4},
		{onConstraint(1, 2, 1), onConstraint(0, 1, 5), []api.Swap{swap(0, 0, 2)}, 6 * 5 / 2 * 4},
		{onConstraint(1, 2, 7), onConstraint(0, 1, 5), []api.Swap{swap(0, 0, 2), swap(0, 0, 3)}, 6 * 5 / 2 * 4},
		{onHold(at(2, 1), at(1, 0), 1), onHold(at(0, 1), at(1, 2), 1), []api.Swap{swap(0, 0, 2)}, 6 * 5 * 4},
		{onHold(at(1, 2), at(2, 0), 0), onHold(at(0, 1), at(1, 2), 0), []api.Swap{swap(0, 0, 1), swap(0, 0, 2)}, 6 * 5 * 4},
		{onHold(at(1, 2), at(4, 5), 0), onHold(at(0, 1), at(2, 3), 0), []api.Swap{swap(0, 0, 1), swap(0, 0, 2), swap(0, 0, 4), swap(0, 3, 5)}, 6 * 5 * 4 * 3},
	} {
		if first, way := symmetry.Representative(m, c.q); first != c.first || !slices.Equal(way, c.way) {
			t.Errorf("%v: %v, %v, not %v, %v", c.q, first, way, c.first, c.way)
		}
		if want, ok := wayOf(m, every(m), c.first, c.q); !ok || !slices.Equal(want, c.way) {
			t.Errorf("%v: by the definition %v, not %v", c.q, want, c.way)
		}
		if orbit := symmetry.Orbit(m, c.q); len(orbit) != c.orbit || orbit[0] != c.first || !increases(orbit) {
			t.Errorf("%v: %d questions, not %d", c.q, len(orbit), c.orbit)
		}
	}
}

// increases reports whether each question of a list comes before the next one.
func increases(l []api.Question) bool {
	for i := 1; i < len(l); i++ {
		if !symmetry.Less(l[i-1], l[i]) {
			return false
		}
	}
	return true
}

func TestRulesMemory(t *testing.T) {
	m, before := of(t, rich), of(t, rich)
	list := make([]int, 22)
	r := row(1, 0, 5, 1, 6, 4, 7)
	s := swap(0, 0, 2)
	for range 2 {
		changed, _ := symmetry.State(m, s, list)
		other, _ := symmetry.Row(m, s, r)
		if len(changed) != 22 || changed[3] != 0 || !sameRow(other, row(1, 0, 7, 4, 5, 5, 6)) {
			t.Error(changed, other)
		}
		for i := range changed {
			changed[i] = 7
		}
		clear(other.Terms)
		clear(symmetry.Swaps(m))
		orbit := symmetry.Orbit(m, onHold(0, 5, 0))
		_, way := symmetry.Representative(m, onHold(8, 5, 0))
		if len(orbit) == 0 || orbit[0] == (api.Question{}) || len(way) == 0 || way[0] == (api.Swap{}) {
			t.Error(orbit, way)
		}
		clear(orbit)
		clear(way)
		symmetry.Question(m, s, onHold(0, 5, 0))
		symmetry.Holds(m, s)
	}
	if !slices.Equal(list, make([]int, 22)) || !sameRow(r, row(1, 0, 5, 1, 6, 4, 7)) || !reflect.DeepEqual(m, before) {
		t.Error("arguments have changed")
	}
}

// P1: every function terminates for arguments of all kinds, too.
func TestP1Arguments(t *testing.T) {
	numbers := []int{-1 << 63, -1, 0, 1, 2, 7, 1 << 20, 1<<63 - 1}
	models := append(broken(t), of(t, rich), of(t, ""), api.Model{Actions: make([]api.Action, 3)}, api.Model{Sorts: []int{2}, Tables: []api.Table{{Name: "r", Columns: []int{0, -1, 1 << 62}}}}, api.Model{Sorts: []int{1 << 62}})
	for _, m := range models {
		for _, n := range numbers {
			for _, k := range numbers {
				s := swap(n%3, k, n)
				for _, s := range []api.Swap{s, swap(0, 0, 1), swap(n, 0, 1)} {
					symmetry.Cell(m, s, n)
					symmetry.State(m, s, make([]int, max(0, min(n, 100))))
					symmetry.Row(m, s, row(n, k, n, n, k))
					symmetry.Action(m, s, n)
					symmetry.Constraint(m, s, n)
					symmetry.Question(m, s, onHold(n, k, n))
					symmetry.Question(m, s, onConstraint(n, k, n))
					symmetry.Holds(m, s)
				}
				symmetry.Orbit(m, onHold(n, k, k))
				symmetry.Representative(m, onConstraint(k, n, k))
				symmetry.Less(onHold(n, k, k), onConstraint(k, n, k))
			}
		}
		symmetry.Swaps(m)
	}
}
