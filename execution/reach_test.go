package execution_test

import (
	"fmt"
	"math/rand"
	"reflect"
	"slices"
	"testing"

	"confluent/api"
	"confluent/execution"
	"confluent/state"
)

func TestP15_3Chapter(t *testing.T) {
	m := of(t, chapter)
	for _, c := range []struct {
		start []int
		steps int
		want  [][]int
	}{
		{[]int{0, 0}, 0, [][]int{{0, 0}}}, {[]int{0, 0}, 1, [][]int{{0, 0}, {1, 0}, {0, 1}}}, {[]int{0, 0}, 2, [][]int{{0, 0}, {1, 0}, {0, 1}}}, {[]int{0, 0}, 8, [][]int{{0, 0}, {1, 0}, {0, 1}}},
		{[]int{1, 0}, 0, [][]int{{1, 0}}}, {[]int{1, 0}, 1, [][]int{{1, 0}, {0, 1}}}, {[]int{0, 1}, 8, [][]int{{0, 1}}},
	} {
		if got, e := execution.Reach(m, c.start, c.steps); !reflect.DeepEqual(got, c.want) || e != api.OK {
			t.Errorf("%v, %d: %v, %d, not %v", c.start, c.steps, got, e, c.want)
		}
	}
}

func TestP15_3Order(t *testing.T) {
	// The actions are far(), more() and less(); a state is found by the shortest run, of these by the first one.
	m := of(t, "counter c() in -3..9; operation far() { add 4 to c(); hold c() <= 1; } operation more() { add 1 to c(); } operation less() { add -1 to c(); }")
	for steps, want := range []string{"[0]", "[0 4 1 -1]", "[0 4 1 -1 5 3 2 -2]", "[0 4 1 -1 5 3 2 -2 6 -3]", "[0 4 1 -1 5 3 2 -2 6 -3 7]"} {
		got, e := execution.Reach(m, []int{0}, steps)
		var values []int
		for _, list := range got {
			values = append(values, list...)
		}
		if fmt.Sprint(values) != want || e != api.OK {
			t.Errorf("%d steps: %v, %d, not %s", steps, values, e, want)
		}
	}
	// A negative value, and values whose digits stand together in the same order, make different states.
	m = of(t, "counter a() in -11..11; counter b() in -11..11; operation x() { add 1 to a(); add 11 to b(); } operation y() { add 11 to a(); add 1 to b(); } operation z() { add -1 to a(); add 1 to b(); } operation u() { add 1 to a(); add -1 to b(); }")
	if got, e := execution.Reach(m, []int{0, 0}, 1); !reflect.DeepEqual(got, [][]int{{0, 0}, {1, 11}, {11, 1}, {-1, 1}, {1, -1}}) || e != api.OK {
		t.Error(got, e)
	}
}

// all returns by the definition the states that runs of at most some number of actions leave.
func all(m api.Model, start []int, steps int) [][]int {
	found := [][]int{start}
	reached := 0
	for range steps {
		end := len(found)
		for _, list := range found[reached:end] {
			for _, a := range m.Actions {
				after, _ := defined(m, a.Effect, list)
				if !slices.ContainsFunc(found, func(l []int) bool { return slices.Equal(l, after) }) {
					found = append(found, after)
				}
			}
		}
		reached = end
	}
	return found
}

func TestP15_3Random(t *testing.T) {
	random := rand.New(rand.NewSource(3))
	lengths := map[bool]int{}
	for _, text := range []string{
		"sort s 3; relation r(a: s); relation q(a: s); invariant i: reference q(a) to r; operation o(p: s) { insert r(p); } operation x(p: s) { delete r(p); hold q(0) <= 0; } operation k(p: s) { insert q(p); } operation z(p: s, n in 0..1) { delete q(p); hold r(p) <= n; }",
		"counter a() in -2..2; counter b() in 5..7; invariant i: all() a() + b() <= 8; invariant j: all() a() - b() >= -8; operation o(n in -2..3) { add n to a(); } operation k(n in -1..1) { add n to b(); hold a() <= 1 + n; }",
		"sort s 3; relation e(a: s, b: s); invariant i: acyclic e; operation o(p: s, q: s) { insert e(p, q); } operation k(p: s) { delete e(p, 0); delete e(p, 1); }",
		"set m() addwins; operation o() { put m(); }", "relation r();", "operation o() { }",
	} {
		m := of(t, text)
		start := state.Initial(m)
		if len(start) > 0 {
			start[len(start)-1] = m.Constraints[len(start)*2-1].Row.Bound
		}
		if !valid(m, start) {
			start = state.Initial(m)
		}
		for range 6 {
			if len(m.Actions) > 0 {
				start = wander(random, m, start)
			}
			for steps := range 9 {
				want := all(m, start, steps)
				got, e := execution.Reach(m, start, steps)
				if !slices.EqualFunc(got, want, slices.Equal) || e != api.OK {
					t.Fatalf("%s from %v by %d steps: %v, %d, not %v", text, start, steps, got, e, want)
				}
				lengths[len(want) > 10]++
			}
		}
	}
	if lengths[true] < 50 || lengths[false] < 50 {
		t.Error("the random states are too similar:", lengths)
	}
}

func TestP15_3Limits(t *testing.T) {
	for steps, text := range map[int]string{8: "counter c() in 0..%d; operation o(n in 1..128) { add n to c(); }", 5: "counter c() in 0..%d; operation o(n in 1..250) { add n to c(); }"} {
		for _, hi := range []int{1023, 1024, 9999} {
			m := of(t, fmt.Sprintf(text, hi))
			got, e := execution.Reach(m, []int{0}, steps)
			if hi == 1023 && (len(got) != 1024 || e != api.OK || got[1023][0] != 1023) || hi > 1023 && (len(got) > 0 || e != api.ErrTooLarge) {
				t.Errorf("to %d by %d steps: %d states, %d", hi, steps, len(got), e)
			}
		}
	}
	m := of(t, chapter)
	for _, steps := range []int{-1, 9, -1 << 63, 1<<63 - 1} {
		if got, e := execution.Reach(m, []int{0, 0}, steps); len(got) > 0 || e != api.ErrRange {
			t.Errorf("%d steps: %v, %d", steps, got, e)
		}
		if got, e := execution.Reach(m, []int{1, 1}, steps); len(got) > 0 || e != api.ErrArg {
			t.Errorf("%d steps from no state: %v, %d", steps, got, e)
		}
	}
	for _, list := range [][]int{nil, {0}, {0, 0, 0}, {0, 2}, {1, 1}} {
		if got, e := execution.Reach(m, list, 1); len(got) > 0 || e != api.ErrArg {
			t.Errorf("from %v: %v, %d", list, got, e)
		}
	}
	for _, m := range broken(t) {
		for _, list := range [][]int{nil, {0, 0}} {
			if got, e := execution.Reach(m, list, 1); len(got) > 0 || e != api.ErrArg {
				t.Errorf("from %v: %v, %d", list, got, e)
			}
		}
	}
	if got, e := execution.Reach(api.Model{}, nil, 8); len(got) != 1 || len(got[0]) > 0 || e != api.OK {
		t.Error("without cells:", got, e)
	}
}
