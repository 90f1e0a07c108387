package execution_test

import (
	"math/rand"
	"slices"
	"testing"

	"confluent/api"
	"confluent/execution"
	"confluent/state"
)

func TestP15_5Runs(t *testing.T) {
	m := of(t, wide)
	random := rand.New(rand.NewSource(5))
	for range 200 {
		start := wander(random, m, state.Initial(m))
		var actions []int
		for range 20 {
			actions = append(actions, random.Intn(len(m.Actions)))
		}
		var changes [][]api.Change
		list := start
		for _, action := range actions {
			left, refusal, _ := execution.Execute(m, action, list)
			if refusal.Kind == api.RefusalNone {
				changes = append(changes, m.Actions[action].Effect.Delta)
			} else if !slices.Equal(left, list) {
				t.Fatalf("%d is refused, but changes %v to %v", action, list, left)
			}
			if !state.Valid(m, left) {
				t.Fatalf("%d in %v leaves %v, which is not valid", action, list, left)
			}
			list = left
		}
		random.Shuffle(len(changes), func(i, k int) { changes[i], changes[k] = changes[k], changes[i] })
		end := start
		for _, d := range changes {
			end = state.Apply(end, d)
		}
		if !slices.Equal(end, list) {
			t.Fatalf("%v from %v leaves %v, not %v", actions, start, list, end)
		}
		if got, _, _ := execution.Run(m, start, actions...); !slices.Equal(got, list) {
			t.Fatalf("the run leaves %v, not %v", got, list)
		}
	}
}

func TestP15_5Less(t *testing.T) {
	m := of(t, wide)
	random := rand.New(rand.NewSource(6))
	fewer := 0
	for range 1500 {
		list := wander(random, m, state.Initial(m))
		x := m.Actions[random.Intn(len(m.Actions))].Effect
		before, _ := execution.Check(m, x, list)
		y := x
		if len(x.Hold) > 0 {
			i := random.Intn(len(x.Hold))
			y.Hold = slices.Concat(x.Hold[:i], x.Hold[i+1:])
		}
		// Those of the ranges have to stay.
		n := m
		i := 36 + random.Intn(len(m.Constraints)-36)
		n.Constraints = slices.Concat(m.Constraints[:i], m.Constraints[i+1:])
		for _, possible := range []bool{execution.Possible(m, y, list), execution.Possible(n, x, list), execution.Possible(n, y, list)} {
			if before.Kind == api.RefusalNone && !possible {
				t.Fatalf("%v is refused in %v with less", x, list)
			}
			if before.Kind != api.RefusalNone && possible {
				fewer++
			}
		}
	}
	if fewer < 20 {
		t.Error("too few effects are possible with less:", fewer)
	}
}

func TestP15_5Orders(t *testing.T) {
	m := of(t, wide)
	random := rand.New(rand.NewSource(7))
	both := 0
	for range 3000 {
		list := wander(random, m, state.Initial(m))
		a, b := random.Intn(len(m.Actions)), random.Intn(len(m.Actions))
		first, refusals, _ := execution.Run(m, list, a, b)
		second, others, _ := execution.Run(m, list, b, a)
		executed := func(r api.Refusal) bool { return r.Kind == api.RefusalNone }
		if !executed(refusals[0]) || !executed(refusals[1]) || !executed(others[0]) || !executed(others[1]) {
			continue
		}
		both++
		if !slices.Equal(first, second) {
			t.Fatalf("%d and %d leave %v or %v in %v", a, b, first, second, list)
		}
	}
	if both < 200 {
		t.Error("too few pairs are executed in both orders:", both)
	}
}
