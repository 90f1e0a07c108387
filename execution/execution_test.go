package execution_test

import (
	"math/rand"
	"reflect"
	"slices"
	"testing"

	"confluent/api"
	"confluent/checker"
	"confluent/execution"
	"confluent/model"
	"confluent/state"
)

const (
	// The actions are o(0), o(1) and k().
	chapter = "sort s 2; relation r(a: s); invariant i: count r() <= 1; operation o(p: s) { insert r(p); } operation k() { hold r(0) >= 1; delete r(0); insert r(1); }"
	// The strict cells are r 0 to 5, c 6 and 7, e 8 to 16, k 17; the constraints few are 36 and 37, order is 38, room 39 and 40.
	wide = "sort s 2; sort t 3; relation r(a: s, b: t); set m(a: s) addwins; counter c(a: s) in -2..3; relation e(a: t, b: t); counter k() in 1..4; register g() in 0..1 last; " +
		"invariant few: count r(a) <= 2; invariant order: acyclic e; invariant room: all(x: s) c(x) + 2 * k() <= 8; " +
		"operation put_one(p: s, q: t) { insert r(p, q); add 1 to c(p); put m(p); } operation take(p: s, q: t) { delete r(p, q); hold c(p) >= 0; hold r(p, q) + k() <= 4; } " +
		"operation link(p: t, q: t) { insert e(p, q); hold e(q, p) <= 0; } operation cut(p: t, q: t) { delete e(p, q); } operation more(n in -1..2) { add n to k(); assign g() = 1; } operation lose(p: s) { add -2 to c(p); } operation nothing() { }"
)

func of(t *testing.T, text string) api.Model {
	t.Helper()
	p, wrong, e := checker.Check(text)
	if e != api.OK || len(wrong) > 0 {
		t.Fatalf("%s is not accepted: %v, %d", text, wrong, e)
	}
	m, e := model.Of(p)
	if e != api.OK {
		t.Fatal(text, e)
	}
	return m
}

// broken returns models that are not valid.
func broken(t *testing.T) []api.Model {
	sizes, family, effects := of(t, chapter), of(t, chapter), of(t, chapter)
	sizes.Sorts[0] = 7
	family.Constraints[4].Family = 9
	effects.Actions[0].Effect.Delta[0].Add = 0
	return []api.Model{sizes, family, effects, {Families: []string{""}}}
}

func row(bound int, pairs ...int) api.Row {
	r := api.Row{Bound: bound}
	for i := 0; i < len(pairs); i += 2 {
		r.Terms = append(r.Terms, api.Term{Cell: pairs[i], Factor: pairs[i+1]})
	}
	return r
}

// delta returns the changes of pairs of a cell and a number.
func delta(pairs ...int) []api.Change {
	var all []api.Change
	for i := 0; i < len(pairs); i += 2 {
		all = append(all, api.Change{Cell: pairs[i], Add: pairs[i+1]})
	}
	return all
}

func hold(rows ...api.Row) api.Effect { return api.Effect{Hold: rows} }

func refused(kind, index int) api.Refusal { return api.Refusal{Kind: kind, Index: index} }

func find(t *testing.T, m api.Model, texts ...string) []int {
	t.Helper()
	var actions []int
	for _, text := range texts {
		action, e := model.Find(m, text)
		if e != api.OK {
			t.Fatal(text, e)
		}
		actions = append(actions, action)
	}
	return actions
}

// check compares Check and Possible with a refusal, or an error.
func check(t *testing.T, m api.Model, x api.Effect, list []int, want api.Refusal, wrong api.Errno) {
	t.Helper()
	if got, e := execution.Check(m, x, list); got != want || e != wrong {
		t.Errorf("%v in %v: %v, %d, not %v, %d", x, list, got, e, want, wrong)
	}
	if got := execution.Possible(m, x, list); got != (wrong == api.OK && want.Kind == api.RefusalNone) {
		t.Errorf("%v in %v is possible: %v", x, list, got)
	}
}

func TestP15_1Chapter(t *testing.T) {
	m := of(t, chapter)
	for _, c := range []struct {
		action string
		list   []int
		want   api.Refusal
	}{
		{"o(0)", []int{0, 0}, refused(api.RefusalNone, 0)}, {"o(1)", []int{0, 0}, refused(api.RefusalNone, 0)}, {"k()", []int{0, 0}, refused(api.RefusalHold, 0)},
		{"o(0)", []int{1, 0}, refused(api.RefusalConstraint, 1)}, {"o(1)", []int{1, 0}, refused(api.RefusalConstraint, 4)}, {"k()", []int{1, 0}, refused(api.RefusalNone, 0)},
		{"o(0)", []int{0, 1}, refused(api.RefusalConstraint, 4)}, {"o(1)", []int{0, 1}, refused(api.RefusalConstraint, 3)}, {"k()", []int{0, 1}, refused(api.RefusalHold, 0)},
	} {
		check(t, m, m.Actions[find(t, m, c.action)[0]].Effect, c.list, c.want, api.OK)
	}
}

func TestP15_1Order(t *testing.T) {
	m := of(t, wide)
	list := state.Initial(m)
	list[0], list[9] = 1, 1
	for _, c := range []struct {
		x    api.Effect
		want api.Refusal
	}{
		{api.Effect{}, refused(api.RefusalNone, 0)},
		{hold(row(0)), refused(api.RefusalNone, 0)}, {hold(row(-1)), refused(api.RefusalHold, 0)},
		{hold(row(1, 0, 1), row(-1, 17, -1), row(1, 17, 2), row(0, 0, 1)), refused(api.RefusalHold, 2)},
		// Hold rows hold in the state itself, not behind the changes.
		{api.Effect{Hold: []api.Row{row(0, 1, 1)}, Delta: delta(1, 1)}, refused(api.RefusalNone, 0)},
		{api.Effect{Hold: []api.Row{row(-1, 1, -1)}, Delta: delta(1, 1)}, refused(api.RefusalHold, 0)},
		// Hold rows come before constraints, and constraints in their order.
		{api.Effect{Hold: []api.Row{row(9), row(0, 9, 1)}, Delta: delta(0, 5)}, refused(api.RefusalHold, 1)},
		{api.Effect{Delta: delta(17, 4, 2, 1, 1, 1)}, refused(api.RefusalConstraint, 35)},
		{api.Effect{Delta: delta(17, 3, 2, 1, 1, 1)}, refused(api.RefusalConstraint, 36)},
		{api.Effect{Delta: delta(17, 3, 7, 1, 11, 1)}, refused(api.RefusalConstraint, 38)},
		{api.Effect{Delta: delta(17, 3, 7, 1)}, refused(api.RefusalConstraint, 40)},
		{api.Effect{Delta: delta(17, 3, 7, 1, 6, 1)}, refused(api.RefusalConstraint, 39)},
		{api.Effect{Delta: delta(17, 3)}, refused(api.RefusalNone, 0)},
		{api.Effect{Delta: delta(8, 1)}, refused(api.RefusalConstraint, 38)},
		{api.Effect{Delta: delta(6, -2, 7, -3)}, refused(api.RefusalConstraint, 14)},
		// The changes of one cell are added, in whatever order they stand.
		{api.Effect{Delta: delta(17, 5, 0, -1, 17, -6, 17, 2)}, refused(api.RefusalNone, 0)},
		{api.Effect{Delta: delta(17, 5, 0, -1, 17, -6, 0, 2)}, refused(api.RefusalConstraint, 1)},
		{api.Effect{Delta: delta(17, 0, 3, 0)}, refused(api.RefusalNone, 0)},
		// So are the terms of a hold row, and there can be more rows than an action can have.
		{hold(row(1, 17, 2, 0, 7, 17, -1, 0, -7, 5, 0)), refused(api.RefusalNone, 0)},
		{hold(row(0, 17, 2, 0, 7, 17, -1, 0, -7)), refused(api.RefusalHold, 0)},
		{hold(append(make([]api.Row, 20), row(-1))...), refused(api.RefusalHold, 20)},
		// Updates are not looked at.
		{api.Effect{Updates: []api.Update{{Kind: 9, Cell: -5, Value: 1 << 62}, {}, {}}}, refused(api.RefusalNone, 0)},
	} {
		check(t, m, c.x, list, c.want, api.OK)
	}
}

func TestP15_1Errors(t *testing.T) {
	m := of(t, wide)
	list := state.Initial(m)
	const most = api.MaxBound
	for i, x := range []api.Effect{
		{Delta: delta(-1, 1)}, {Delta: delta(18, 1)}, {Delta: delta(0, 1, 1<<62, 1)}, {Delta: delta(-1<<63, 1)}, {Delta: delta(0, most+1)}, {Delta: delta(0, -most-1)}, {Delta: delta(0, -1<<63)}, {Delta: delta(0, 1<<63-1)},
		hold(row(0, -1, 1)), hold(row(0, 18, 1)), hold(row(0, 0, 1, 1<<62, 1)), hold(row(0, 0, most+1)), hold(row(0, 0, -most-1)), hold(row(0, 0, -1<<63)), hold(row(9), row(9, 0, 1, 3, 1<<63-1)),
		// An error is found also behind a row that does not hold.
		{Hold: []api.Row{row(-1), row(0, 18, 1)}}, {Hold: []api.Row{row(-1)}, Delta: delta(0, 1, 18, 1)},
	} {
		check(t, m, x, list, api.Refusal{}, api.ErrRange)
		check(t, m, x, list[1:], api.Refusal{}, api.ErrArg)
		if t.Failed() {
			t.Fatal(i)
		}
	}
	check(t, m, api.Effect{Delta: delta(6, most, 6, 3-most)}, list, refused(api.RefusalNone, 0), api.OK)
	check(t, m, api.Effect{Delta: delta(17, most)}, list, refused(api.RefusalConstraint, 35), api.OK)
	check(t, m, api.Effect{Delta: delta(17, -most)}, list, refused(api.RefusalConstraint, 34), api.OK)
	check(t, m, hold(row(most, 17, most), row(-most, 17, -most)), list, refused(api.RefusalNone, 0), api.OK)
	check(t, m, hold(row(most-1, 17, most)), list, refused(api.RefusalHold, 0), api.OK)
	check(t, m, hold(row(1<<63-1), row(-1<<63)), list, refused(api.RefusalHold, 1), api.OK)
	check(t, m, hold(row(-1<<63, 17, -most)), list, refused(api.RefusalHold, 0), api.OK)

	outside, cyclic, few := slices.Clone(list), slices.Clone(list), slices.Clone(list)
	outside[17], cyclic[8] = 0, 1
	few[0], few[1], few[2] = 1, 1, 1
	for _, l := range [][]int{nil, append(list, 0), make([]int, 18), outside, cyclic, few} {
		check(t, m, api.Effect{}, l, api.Refusal{}, api.ErrArg)
		check(t, m, api.Effect{Delta: delta(17, 1, 0, -1, 8, -1)}, l, api.Refusal{}, api.ErrArg)
	}
	for _, m := range broken(t) {
		for _, l := range [][]int{nil, {0, 0}, {0, 0, 0, 0, 0, 0, 0}} {
			check(t, m, api.Effect{}, l, api.Refusal{}, api.ErrArg)
			check(t, m, api.Effect{Delta: delta(-1, 0)}, l, api.Refusal{}, api.ErrArg)
		}
	}
	// A model without strict cells has one state, and no cell.
	check(t, api.Model{}, api.Effect{}, nil, refused(api.RefusalNone, 0), api.OK)
	check(t, api.Model{}, hold(row(-1)), []int{}, refused(api.RefusalHold, 0), api.OK)
	check(t, api.Model{}, hold(row(0, 0, 1)), nil, api.Refusal{}, api.ErrRange)
	check(t, api.Model{}, api.Effect{Delta: delta(0, 1)}, nil, api.Refusal{}, api.ErrRange)
}

func sum(r api.Row, list []int) int {
	total := 0
	for _, t := range r.Terms {
		total += t.Factor * list[t.Cell]
	}
	return total
}

// acyclic reports whether all vertices of a graph can be taken away, one without edges to those that are left after the other.
func acyclic(c api.Constraint, list []int) bool {
	left := map[int]bool{}
	for a := range c.Size {
		left[a] = true
	}
	for range c.Size {
		for a := range c.Size {
			leads := false
			for b := range c.Size {
				leads = leads || left[b] && list[c.First+a*c.Size+b] >= 1
			}
			if !leads {
				delete(left, a)
			}
		}
	}
	return len(left) == 0
}

func satisfied(c api.Constraint, list []int) bool {
	if c.Kind == api.ConstraintAcyclic {
		return acyclic(c, list)
	}
	return sum(c.Row, list) <= c.Row.Bound
}

func valid(m api.Model, list []int) bool {
	return !slices.ContainsFunc(m.Constraints, func(c api.Constraint) bool { return !satisfied(c, list) })
}

// defined returns by the definition what an effect leaves in a valid state, and its refusal.
func defined(m api.Model, x api.Effect, list []int) ([]int, api.Refusal) {
	for i, r := range x.Hold {
		if sum(r, list) > r.Bound {
			return slices.Clone(list), refused(api.RefusalHold, i)
		}
	}
	after := slices.Clone(list)
	for _, c := range x.Delta {
		after[c.Cell] += c.Add
	}
	for i, c := range m.Constraints {
		if !satisfied(c, after) {
			return slices.Clone(list), refused(api.RefusalConstraint, i)
		}
	}
	return after, refused(api.RefusalNone, 0)
}

// wander returns a valid state of a model behind some actions, by the definition.
func wander(random *rand.Rand, m api.Model, start []int) []int {
	list := slices.Clone(start)
	for range random.Intn(40) {
		list, _ = defined(m, m.Actions[random.Intn(len(m.Actions))].Effect, list)
	}
	return list
}

func TestP15_1Random(t *testing.T) {
	m := of(t, wide)
	random := rand.New(rand.NewSource(1))
	seen := map[api.Refusal]int{}
	some := func(most int) []int {
		var pairs []int
		for range random.Intn(most + 1) {
			pairs = append(pairs, random.Intn(18), random.Intn(5)-2)
		}
		return pairs
	}
	for range 6000 {
		list := wander(random, m, state.Initial(m))
		x := api.Effect{Delta: delta(some(3)...)}
		for range random.Intn(4) {
			x.Hold = append(x.Hold, row(random.Intn(9)-1, some(4)...))
		}
		if random.Intn(2) == 0 {
			x = m.Actions[random.Intn(len(m.Actions))].Effect
		}
		_, want := defined(m, x, list)
		check(t, m, x, list, want, api.OK)
		if t.Failed() {
			t.FailNow()
		}
		seen[want]++
	}
	for _, want := range []api.Refusal{{}, refused(api.RefusalHold, 0), refused(api.RefusalHold, 1), refused(api.RefusalHold, 2), refused(api.RefusalConstraint, 0), refused(api.RefusalConstraint, 36), refused(api.RefusalConstraint, 38), refused(api.RefusalConstraint, 40)} {
		if seen[want] < 5 {
			t.Error("the random effects are too similar:", want, seen[want])
		}
	}
}

func TestP15_2Chapter(t *testing.T) {
	m := of(t, chapter)
	left, refusals, e := execution.Run(m, []int{0, 0}, 0, 1, 2)
	if !slices.Equal(left, []int{0, 1}) || !slices.Equal(refusals, []api.Refusal{{}, refused(api.RefusalConstraint, 4), {}}) || e != api.OK {
		t.Error(left, refusals, e)
	}
	for _, c := range []struct {
		action  int
		list    []int
		left    []int
		refusal api.Refusal
	}{
		{0, []int{0, 0}, []int{1, 0}, api.Refusal{}}, {1, []int{0, 0}, []int{0, 1}, api.Refusal{}}, {2, []int{1, 0}, []int{0, 1}, api.Refusal{}},
		{2, []int{0, 1}, []int{0, 1}, refused(api.RefusalHold, 0)}, {0, []int{1, 0}, []int{1, 0}, refused(api.RefusalConstraint, 1)}, {0, []int{0, 1}, []int{0, 1}, refused(api.RefusalConstraint, 4)},
	} {
		if left, refusal, e := execution.Execute(m, c.action, c.list); !slices.Equal(left, c.left) || refusal != c.refusal || e != api.OK {
			t.Errorf("%d in %v: %v, %v, %d", c.action, c.list, left, refusal, e)
		}
	}
	for _, list := range [][]int{{0, 0}, {1, 0}, {0, 1}} {
		if left, refusals, e := execution.Run(m, list); !slices.Equal(left, list) || len(refusals) > 0 || e != api.OK {
			t.Error(left, refusals, e)
		}
	}
}

func TestP15_2Random(t *testing.T) {
	m := of(t, wide)
	random := rand.New(rand.NewSource(2))
	kinds := map[int]int{}
	for range 300 {
		start := wander(random, m, state.Initial(m))
		var actions []int
		for range random.Intn(30) {
			actions = append(actions, random.Intn(len(m.Actions)))
		}
		want := start
		var wantRefusals []api.Refusal
		for _, action := range actions {
			after, refusal := defined(m, m.Actions[action].Effect, want)
			if left, r, e := execution.Execute(m, action, want); !slices.Equal(left, after) || r != refusal || e != api.OK {
				t.Fatalf("%d in %v: %v, %v, %d, not %v, %v", action, want, left, r, e, after, refusal)
			}
			want = after
			wantRefusals = append(wantRefusals, refusal)
			kinds[refusal.Kind]++
		}
		left, refusals, e := execution.Run(m, start, actions...)
		if !slices.Equal(left, want) || !slices.Equal(refusals, wantRefusals) || e != api.OK {
			t.Fatalf("%v from %v: %v, %v, %d, not %v, %v", actions, start, left, refusals, e, want, wantRefusals)
		}
	}
	if kinds[api.RefusalNone] < 200 || kinds[api.RefusalHold] < 200 || kinds[api.RefusalConstraint] < 200 {
		t.Error("the random runs are too similar:", kinds)
	}
}

func TestP15_2Errors(t *testing.T) {
	m := of(t, chapter)
	none := func(want api.Errno, m api.Model, list []int, actions ...int) {
		t.Helper()
		if left, refusals, e := execution.Run(m, list, actions...); len(left) > 0 || len(refusals) > 0 || e != want {
			t.Errorf("%v in %v: %v, %v, %d", actions, list, left, refusals, e)
		}
		if len(actions) != 1 {
			return
		}
		if left, refusal, e := execution.Execute(m, actions[0], list); len(left) > 0 || refusal != (api.Refusal{}) || e != want {
			t.Errorf("%v in %v: %v, %v, %d", actions, list, left, refusal, e)
		}
	}
	for _, action := range []int{-1, 3, 1 << 62, -1 << 63} {
		none(api.ErrNotFound, m, []int{0, 0}, action)
		none(api.ErrNotFound, m, []int{0, 0}, action, 0)
		none(api.ErrNotFound, m, []int{0, 0}, 0, 1, 2, action)
		none(api.ErrNotFound, m, []int{0, 0}, 0, action, 2)
		none(api.ErrArg, m, []int{0, 2}, action)
	}
	for _, list := range [][]int{nil, {0}, {0, 0, 0}, {1, 1}, {0, -1}, {0, 2}} {
		none(api.ErrArg, m, list)
		none(api.ErrArg, m, list, 0)
		none(api.ErrArg, m, list, 0, 7)
	}
	for _, m := range broken(t) {
		none(api.ErrArg, m, []int{0, 0})
		none(api.ErrArg, m, []int{0, 0}, 0)
		none(api.ErrArg, m, nil, 9)
	}
	none(api.ErrNotFound, api.Model{}, nil, 0)
	none(api.OK, api.Model{}, nil)
}

func TestRulesMemory(t *testing.T) {
	m, before := of(t, chapter), of(t, chapter)
	list := make([]int, 2, 9)
	actions := []int{0, 1, 2}
	clear(list[:9])
	spoil := func(l []int) {
		clear(l)
		for i := range l[:cap(l)] {
			l[:cap(l)][i] = 7
		}
	}
	a, _, _ := execution.Run(m, list, actions...)
	b, _, _ := execution.Run(m, list)
	c, _, _ := execution.Execute(m, 2, list)
	d, _, _ := execution.Execute(m, 0, list)
	all, _ := execution.Reach(m, list, 2)
	again, _ := execution.Reach(m, list, 2)
	for _, l := range append(all, a, b, c, d) {
		spoil(l)
	}
	execution.Check(m, m.Actions[2].Effect, list)
	execution.Words(m, m.Actions[2].Effect, refused(api.RefusalHold, 0))
	if !slices.Equal(list[:9], make([]int, 9)) || !slices.Equal(actions, []int{0, 1, 2}) || !reflect.DeepEqual(m, before) || !reflect.DeepEqual(again, [][]int{{0, 0}, {1, 0}, {0, 1}}) {
		t.Error("arguments have changed, or results share memory")
	}
	for i, l := range all {
		for k := range l {
			l[k] = i
		}
	}
	if !reflect.DeepEqual(all, [][]int{{0, 0}, {1, 1}, {2, 2}}) {
		t.Error("the parts of a result share memory")
	}
}

// P1: every function terminates for arguments of all kinds, too.
func TestP1Arguments(t *testing.T) {
	const least, greatest = -1 << 63, 1<<63 - 1
	odd := []api.Effect{{}, {Delta: delta(least, least, greatest, greatest, 0, least)}, hold(row(least, least, least, greatest, greatest), row(greatest, 0, greatest)), {Hold: make([]api.Row, 1000), Delta: make([]api.Change, 1000), Updates: make([]api.Update, 1000)}}
	models := append(broken(t), of(t, wide), of(t, chapter), api.Model{}, api.Model{Actions: make([]api.Action, 3)}, api.Model{Sorts: []int{1 << 62}, Tables: []api.Table{{Name: "r", Columns: []int{0, -1}}}})
	for _, m := range models {
		for _, list := range [][]int{nil, {least, greatest}, {0, 0}, slices.Repeat([]int{greatest}, 18), make([]int, 1<<16), state.Initial(m)} {
			for _, x := range odd {
				execution.Possible(m, x, list)
				execution.Check(m, x, list)
				for _, number := range []int{least, -1, 0, 1, 2, 5, 999, greatest} {
					execution.Words(m, x, refused(number, 0))
					execution.Words(m, x, refused(api.RefusalHold, number))
					execution.Words(m, x, refused(api.RefusalConstraint, number))
				}
			}
			for _, number := range []int{least, -1, 0, 2, 8, 9, greatest} {
				execution.Execute(m, number, list)
				execution.Run(m, list, 0, number, 0)
				execution.Reach(m, list, number)
			}
		}
	}
}
