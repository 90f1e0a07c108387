package symmetry

import (
	"cmp"

	"confluent/api"
)

// compare compares questions in their order.
func compare(a, b api.Question) int {
	return cmp.Or(
		cmp.Compare(a.E, b.E),
		cmp.Compare(a.F, b.F),
		cmp.Compare(kind(a.Target), kind(b.Target)),
		cmp.Compare(a.Target.Index, b.Target.Index),
	)
}

// kind returns a number that is less for constraints than for hold rows.
func kind(t api.Target) int {
	if t.Hold {
		return 1
	}
	return 0
}

// isQuestion reports whether a question is one of a valid model.
func isQuestion(m api.Model, q api.Question) bool {
	if !within(q.E, len(m.Actions)) || !within(q.F, len(m.Actions)) {
		return false
	}
	if q.Target.Hold {
		return within(q.Target.Index, len(m.Actions[q.E].Effect.Hold))
	}
	return q.E <= q.F && within(q.Target.Index, len(m.Constraints))
}

// images tells what actions, constraints, and the hold rows of an action become, and whether they become something.
type images interface {
	action(action int) (int, bool)
	constraint(constraint int) (int, bool)
	hold(action, row int) (int, bool)
}

// exchanged returns what a question becomes, and whether it becomes something.
func exchanged(x images, q api.Question) (api.Question, bool) {
	e, isE := x.action(q.E)
	f, isF := x.action(q.F)
	index, isTarget := target(x, q)
	if !isE || !isF || !isTarget {
		return api.Question{}, false
	}
	if !q.Target.Hold {
		e, f = min(e, f), max(e, f)
	}
	return api.Question{E: e, F: f, Target: api.Target{Hold: q.Target.Hold, Index: index}}, true
}

// target returns the index of what the target of a question becomes, and whether it becomes something.
func target(x images, q api.Question) (int, bool) {
	if q.Target.Hold {
		return x.hold(q.E, q.Target.Index)
	}
	return x.constraint(q.Target.Index)
}
