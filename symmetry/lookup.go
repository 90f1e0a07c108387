package symmetry

import (
	"cmp"
	"slices"

	"confluent/api"
)

// lookup finds what actions, constraints and hold rows become by an exchange.
type lookup struct {
	exchange
	catalogue
}

// lookupOf returns the lookup of a swap, and whether the model is valid and the swap one of it.
func lookupOf(m api.Model, s api.Swap) (*lookup, bool) {
	x, ok := exchangeOf(m, s)
	if !ok {
		return nil, false
	}
	return &lookup{x, catalogueOf(m)}, true
}

func (x *lookup) action(action int) (int, bool) {
	a := x.Actions[action]
	to, found := slices.BinarySearchFunc(x.Actions, api.Action{Operation: a.Operation, Arguments: x.arguments(a)}, compareActions)
	if !found || !x.alike(action, to) {
		return 0, false
	}
	return to, true
}

// compareActions compares actions in the order in which they stand in a model.
func compareActions(a, b api.Action) int {
	return cmp.Or(cmp.Compare(a.Operation, b.Operation), slices.Compare(a.Arguments, b.Arguments))
}

// alike reports whether what the effect of an action becomes is alike to the effect of another one.
func (x *lookup) alike(action, to int) bool {
	a, b := x.Actions[action].Effect, x.Actions[to].Effect
	for row := range a.Hold {
		if _, ok := x.holdOf(action, row, to); !ok {
			return false
		}
	}
	return len(a.Hold) == len(b.Hold) && slices.Equal(x.delta(a.Delta), b.Delta) && slices.Equal(x.updates(a.Updates), b.Updates)
}

func (x *lookup) constraint(constraint int) (int, bool) {
	c := x.Constraints[constraint]
	if c.Kind == api.ConstraintAcyclic {
		return constraint, true
	}
	return x.constraints.find(familyText(c.Family, x.row(c.Row)), x.constraints.ranks[constraint])
}

func (x *lookup) hold(action, row int) (int, bool) {
	to, ok := x.action(action)
	if !ok {
		return 0, false
	}
	return x.holdOf(action, row, to)
}

// holdOf returns which hold row of another action a hold row of an action becomes, and whether there is one.
func (x *lookup) holdOf(action, row, to int) (int, bool) {
	r := x.Actions[action].Effect.Hold[row]
	return x.holds[to].find(rowText(x.row(r)), x.holds[action].ranks[row])
}
