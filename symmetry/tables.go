package symmetry

import (
	"confluent/api"
	"confluent/model"
)

// symmetry is a symmetry of a model, with what actions, constraints and the hold rows of each action become by it.
type symmetry struct {
	swap        api.Swap
	actions     []int
	constraints []int
	holds       [][]int
}

// symmetries returns the symmetries of a model, in order.
func symmetries(m api.Model) []symmetry {
	if !model.Valid(m) {
		return nil
	}
	rows := catalogueOf(m)
	var all []symmetry
	for _, s := range swaps(m.Sorts) {
		x := &lookup{newExchange(m, s), rows}
		if found, ok := x.symmetry(); ok {
			all = append(all, found)
		}
	}
	return all
}

// symmetry returns all that a lookup finds, and whether its swap is a symmetry.
func (x *lookup) symmetry() (symmetry, bool) {
	actions, complete := everything(len(x.Actions), x.action)
	if !complete {
		return symmetry{}, false
	}
	constraints, complete := everything(len(x.Constraints), x.constraint)
	if !complete {
		return symmetry{}, false
	}
	s := symmetry{swap: x.swap, actions: actions, constraints: constraints}
	for action, to := range actions {
		become := func(row int) (int, bool) { return x.holdOf(action, row, to) }
		rows, _ := everything(len(x.Actions[action].Effect.Hold), become)
		s.holds = append(s.holds, rows)
	}
	return s, true
}

// everything returns what the numbers below a count become, and whether each becomes something.
func everything(count int, become func(int) (int, bool)) ([]int, bool) {
	var all []int
	for i := range count {
		to, ok := become(i)
		if !ok {
			return nil, false
		}
		all = append(all, to)
	}
	return all, true
}

func (s *symmetry) action(action int) (int, bool) { return s.actions[action], true }

func (s *symmetry) constraint(constraint int) (int, bool) { return s.constraints[constraint], true }

func (s *symmetry) hold(action, row int) (int, bool) { return s.holds[action][row], true }
