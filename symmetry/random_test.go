package symmetry_test

import (
	"math/rand"
	"slices"
	"testing"

	"confluent/api"
	"confluent/execution"
	"confluent/model"
	"confluent/state"
	"confluent/symmetry"
)

const small = "sort s 3; sort t 2; relation r(a: s, b: t); set m(a: s) addwins; counter c() in -1..2; register g(a: t) in 0..5 last; relation e(a: s, b: s); " +
	"invariant few: count r(a) <= 1; invariant order: acyclic e; invariant room: all(x: s) sum(y: t) r(x, y) + c() <= 3; " +
	"operation take(p: s, q: t) { insert r(p, q); add 1 to c(); put m(p); hold r(p, q) <= 0; hold c() <= 1; } operation link(p: s, q: s) { require p != q; insert e(p, q); hold e(q, p) <= 0; } operation set_all(q: t) { assign g(q) = 3; for x: s { drop m(x); } hold c() >= 0; }"

// rest is the number of the constraints of small that are those of the ranges.
const rest = 2 * 16

// changes returns changes of a model, after most of which it is still valid.
func changes(random *rand.Rand) []func(m *api.Model) {
	effect := func(m *api.Model) *api.Effect { return &m.Actions[random.Intn(len(m.Actions))].Effect }
	constraint := func(m *api.Model) *api.Constraint {
		return &m.Constraints[rest+random.Intn(len(m.Constraints)-rest)]
	}
	shuffle := func(rows []api.Row) {
		random.Shuffle(len(rows), func(i, k int) { rows[i], rows[k] = rows[k], rows[i] })
	}
	return []func(m *api.Model){
		func(m *api.Model) {
			i := random.Intn(len(m.Actions))
			m.Actions = slices.Delete(m.Actions, i, i+1)
		},
		func(m *api.Model) { shuffle(effect(m).Hold) },
		func(m *api.Model) {
			for i := range m.Actions {
				shuffle(m.Actions[i].Effect.Hold)
			}
		},
		func(m *api.Model) {
			x := effect(m)
			x.Hold = append(x.Hold, x.Hold[0])
		},
		func(m *api.Model) {
			for i := range m.Actions {
				x := &m.Actions[i].Effect
				x.Hold = append(x.Hold, x.Hold[0], x.Hold[len(x.Hold)-1])
				shuffle(x.Hold)
			}
		},
		func(m *api.Model) { effect(m).Hold[0].Bound++ },
		func(m *api.Model) {
			if x := effect(m); len(x.Delta) > 0 {
				x.Delta[0].Add++
			}
		},
		func(m *api.Model) {
			if x := effect(m); len(x.Updates) > 0 {
				x.Updates = x.Updates[1:]
			}
		},
		func(m *api.Model) {
			i := rest + random.Intn(len(m.Constraints)-rest)
			m.Constraints = slices.Delete(m.Constraints, i, i+1)
		},
		func(m *api.Model) { m.Constraints = append(m.Constraints, *constraint(m)) },
		func(m *api.Model) { m.Constraints = append(m.Constraints, m.Constraints[rest:]...) },
		func(m *api.Model) { constraint(m).Family = random.Intn(2) },
		func(m *api.Model) {
			if c := constraint(m); c.Kind == api.ConstraintRow {
				c.Row.Bound++
			}
		},
		func(m *api.Model) {
			l := m.Constraints[rest:]
			random.Shuffle(len(l), func(i, k int) { l[i], l[k] = l[k], l[i] })
		},
	}
}

// altered returns a valid model with some random changes.
func altered(t *testing.T, random *rand.Rand) api.Model {
	t.Helper()
	all := changes(random)
	for {
		m := of(t, small)
		for range random.Intn(4) {
			all[random.Intn(len(all))](&m)
		}
		if model.Valid(m) {
			return m
		}
	}
}

// someQuestion returns a random question of a model, about a hold row as often as about a constraint.
func someQuestion(random *rand.Rand, m api.Model) api.Question {
	e, f := random.Intn(len(m.Actions)), random.Intn(len(m.Actions))
	if random.Intn(2) == 0 {
		return onHold(e, f, random.Intn(len(m.Actions[e].Effect.Hold)))
	}
	return onConstraint(min(e, f), max(e, f), random.Intn(len(m.Constraints)))
}

func TestP16_3Random(t *testing.T) {
	random := rand.New(rand.NewSource(3))
	counts := map[string]int{}
	count := func(kind string, ok bool) {
		if !ok {
			kind = "no " + kind
		}
		counts[kind]++
	}
	for range 40 {
		m := altered(t, random)
		for _, s := range every(m) {
			for action := range m.Actions {
				want, wantOk := actionOf(m, s, action)
				if got, ok := symmetry.Action(m, s, action); got != want || ok != wantOk {
					t.Fatalf("%v: the action %d becomes %d, %v, not %d, %v, in %v", s, action, got, ok, want, wantOk, m)
				}
				count("action", wantOk)
			}
			for constraint := range m.Constraints {
				want, wantOk := constraintOf(m, s, constraint)
				if got, ok := symmetry.Constraint(m, s, constraint); got != want || ok != wantOk {
					t.Fatalf("%v: the constraint %d becomes %d, %v, not %d, %v, in %v", s, constraint, got, ok, want, wantOk, m)
				}
				count("constraint", wantOk)
			}
			for range 40 {
				q := someQuestion(random, m)
				want, wantOk := questionOf(m, s, q)
				if got, ok := symmetry.Question(m, s, q); got != want || ok != wantOk {
					t.Fatalf("%v: %v becomes %v, %v, not %v, %v, in %v", s, q, got, ok, want, wantOk, m)
				}
				count("question", wantOk)
			}
		}
	}
	for _, kind := range []string{"action", "no action", "constraint", "no constraint", "question", "no question"} {
		if counts[kind] < 20 {
			t.Error("the random models are too similar:", counts)
		}
	}
}

func TestP16_4Random(t *testing.T) {
	random := rand.New(rand.NewSource(4))
	counts := map[int]int{}
	for range 150 {
		m := altered(t, random)
		want := symmetriesOf(m)
		if got := symmetry.Swaps(m); !slices.Equal(got, want) {
			t.Fatalf("%v, not %v, in %v", got, want, m)
		}
		for _, s := range every(m) {
			if got := symmetry.Holds(m, s); got != slices.Contains(want, s) {
				t.Fatalf("%v is a symmetry: %v, in %v", s, got, m)
			}
		}
		counts[len(want)]++
	}
	if counts[0] < 10 || counts[1] < 10 || counts[2] < 2 || counts[4] < 10 {
		t.Error("the random models are too similar:", counts)
	}
}

func TestP16_5Random(t *testing.T) {
	random := rand.New(rand.NewSource(5))
	lengths, orbits := map[int]int{}, map[int]int{}
	for range 60 {
		m := altered(t, random)
		swaps := symmetriesOf(m)
		for range 8 {
			q := someQuestion(random, m)
			orbit := orbitOf(m, swaps, q)
			if got := symmetry.Orbit(m, q); !slices.Equal(got, orbit) {
				t.Fatalf("%v has the orbit %v, not %v, in %v", q, got, orbit, m)
			}
			want, ok := wayOf(m, swaps, orbit[0], q)
			if !ok {
				t.Fatalf("no way leads to %v, in %v", q, m)
			}
			if first, way := symmetry.Representative(m, q); first != orbit[0] || !slices.Equal(way, want) {
				t.Fatalf("%v has %v, %v, not %v, %v, in %v", q, first, way, orbit[0], want, m)
			}
			lengths[len(want)]++
			orbits[len(orbit)]++
		}
	}
	if lengths[0] < 20 || lengths[1] < 20 || lengths[2] < 20 || lengths[3] < 2 || orbits[1] < 5 || orbits[2] < 5 || orbits[12] < 5 {
		t.Error("the random questions are too similar:", lengths, orbits)
	}
}

func TestP16_6Twice(t *testing.T) {
	random := rand.New(rand.NewSource(6))
	for range 30 {
		m := altered(t, random)
		list := make([]int, 16)
		for i := range list {
			list[i] = random.Int()
		}
		for _, s := range every(m) {
			other, _ := symmetry.State(m, s, list)
			if again, ok := symmetry.State(m, s, other); !slices.Equal(again, list) || !ok {
				t.Fatalf("%v: %v becomes %v", s, list, again)
			}
			for _, c := range m.Constraints {
				other, _ := symmetry.Row(m, s, c.Row)
				if again, ok := symmetry.Row(m, s, other); !sameRow(again, c.Row) || !ok {
					t.Fatalf("%v: %v becomes %v", s, c.Row, again)
				}
			}
			for range 20 {
				q := someQuestion(random, m)
				other, ok := symmetry.Question(m, s, q)
				if !ok {
					continue
				}
				if again, ok := symmetry.Question(m, s, other); again != q || !ok {
					t.Fatalf("%v: %v becomes %v, %v", s, q, again, ok)
				}
			}
		}
	}
}

func TestP16_6Symmetries(t *testing.T) {
	random := rand.New(rand.NewSource(7))
	counts := map[bool]int{}
	for range 30 {
		m := altered(t, random)
		swaps := symmetry.Swaps(m)
		list := state.Initial(m)
		for range 20 {
			if !state.Valid(m, list) {
				list = state.Initial(m)
			}
			list, _, _ = execution.Execute(m, random.Intn(len(m.Actions)), list)
			if random.Intn(3) == 0 {
				list[random.Intn(len(list))] += random.Intn(3) - 1
			}
			for _, s := range swaps {
				other, _ := symmetry.State(m, s, list)
				if state.Valid(m, list) != state.Valid(m, other) {
					t.Fatalf("%v changes whether %v is valid, in %v", s, list, m)
				}
				for action, a := range m.Actions {
					to, _ := symmetry.Action(m, s, action)
					before, after := execution.Possible(m, a.Effect, list), execution.Possible(m, m.Actions[to].Effect, other)
					if before != after {
						t.Fatalf("%v changes whether %d is possible in %v, in %v", s, action, list, m)
					}
					counts[before]++
				}
			}
		}
		q := someQuestion(random, m)
		orbit := symmetry.Orbit(m, q)
		first, _ := symmetry.Representative(m, q)
		for _, other := range orbit {
			its, way := symmetry.Representative(m, other)
			if its != first || !slices.Equal(symmetry.Orbit(m, other), orbit) {
				t.Fatalf("%v and %v of one orbit differ, in %v", q, other, m)
			}
			end := its
			for _, s := range way {
				end, _ = symmetry.Question(m, s, end)
			}
			if end != other {
				t.Fatalf("the way %v leads from %v to %v, not %v", way, its, end, other)
			}
		}
	}
	if counts[true] < 500 || counts[false] < 500 {
		t.Error("the random states are too similar:", counts)
	}
}
