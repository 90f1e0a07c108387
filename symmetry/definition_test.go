package symmetry_test

import (
	"fmt"
	"slices"
	"strings"

	"confluent/api"
	"confluent/cells"
)

// The functions of this file do what the definitions of the chapter say, step by step.

func elementOf(s api.Swap, sort, element int) int {
	if sort != s.Sort || element != s.A && element != s.B {
		return element
	}
	return s.A + s.B - element
}

func cellOf(m api.Model, s api.Swap, strict bool, cell int) int {
	table, tuple, _ := cells.Tuple(m.Sorts, m.Tables, strict, cell)
	tuple = slices.Clone(tuple)
	for i, sort := range m.Tables[table].Columns {
		tuple[i] = elementOf(s, sort, tuple[i])
	}
	to, _ := cells.Cell(m.Sorts, m.Tables, table, tuple)
	return to
}

func rowOf(m api.Model, s api.Swap, r api.Row) api.Row {
	factors := map[int]int{}
	for _, t := range r.Terms {
		factors[cellOf(m, s, true, t.Cell)] = t.Factor
	}
	changed := api.Row{Bound: r.Bound}
	for cell := range cells.Count(m.Sorts, m.Tables, true) {
		if factor, ok := factors[cell]; ok {
			changed.Terms = append(changed.Terms, api.Term{Cell: cell, Factor: factor})
		}
	}
	return changed
}

// words returns texts of the parts of an effect, each kind in an order of its own.
func words(x api.Effect) string {
	var texts []string
	for _, c := range x.Delta {
		texts = append(texts, fmt.Sprint("change ", c))
	}
	for _, r := range x.Hold {
		texts = append(texts, "hold "+text(r))
	}
	for _, u := range x.Updates {
		texts = append(texts, fmt.Sprint("update ", u))
	}
	slices.Sort(texts)
	return strings.Join(texts, "\n")
}

func text(r api.Row) string { return fmt.Sprint(r.Terms, r.Bound) }

func effectOf(m api.Model, s api.Swap, x api.Effect) api.Effect {
	var changed api.Effect
	for _, c := range x.Delta {
		changed.Delta = append(changed.Delta, api.Change{Cell: cellOf(m, s, true, c.Cell), Add: c.Add})
	}
	for _, r := range x.Hold {
		changed.Hold = append(changed.Hold, rowOf(m, s, r))
	}
	for _, u := range x.Updates {
		changed.Updates = append(changed.Updates, api.Update{Kind: u.Kind, Cell: cellOf(m, s, false, u.Cell), Value: u.Value})
	}
	return changed
}

func actionOf(m api.Model, s api.Swap, action int) (int, bool) {
	a := m.Actions[action]
	var arguments []int
	for i, sort := range m.Operations[a.Operation].Sorts {
		arguments = append(arguments, elementOf(s, sort, a.Arguments[i]))
	}
	for i, b := range m.Actions {
		if a.Operation == b.Operation && slices.Equal(arguments, b.Arguments) && words(effectOf(m, s, a.Effect)) == words(b.Effect) {
			return i, true
		}
	}
	return 0, false
}

// nth returns the index of the n-th row that has a text, from 0 on.
func nth(texts []string, text string, n int) (int, bool) {
	for i, t := range texts {
		if t != text {
			continue
		}
		if n == 0 {
			return i, true
		}
		n--
	}
	return 0, false
}

// rank returns how many texts before one are equal to it.
func rank(texts []string, index int) int {
	count := 0
	for _, t := range texts[:index] {
		if t == texts[index] {
			count++
		}
	}
	return count
}

func constraintOf(m api.Model, s api.Swap, constraint int) (int, bool) {
	c := m.Constraints[constraint]
	if c.Kind == api.ConstraintAcyclic {
		return constraint, true
	}
	var texts []string
	for i, other := range m.Constraints {
		if other.Kind == api.ConstraintRow && other.Family == c.Family {
			texts = append(texts, text(other.Row))
		} else {
			texts = append(texts, fmt.Sprint("another one: ", i))
		}
	}
	return nth(texts, text(rowOf(m, s, c.Row)), rank(texts, constraint))
}

func holdOf(m api.Model, s api.Swap, action, row int) (int, bool) {
	to, ok := actionOf(m, s, action)
	if !ok {
		return 0, false
	}
	list := func(action int) []string {
		var texts []string
		for _, r := range m.Actions[action].Effect.Hold {
			texts = append(texts, text(r))
		}
		return texts
	}
	return nth(list(to), text(rowOf(m, s, m.Actions[action].Effect.Hold[row])), rank(list(action), row))
}

func questionOf(m api.Model, s api.Swap, q api.Question) (api.Question, bool) {
	e, isE := actionOf(m, s, q.E)
	f, isF := actionOf(m, s, q.F)
	if !isE || !isF {
		return api.Question{}, false
	}
	if q.Target.Hold {
		row, ok := holdOf(m, s, q.E, q.Target.Index)
		return api.Question{E: e, F: f, Target: api.Target{Hold: true, Index: row}}, ok
	}
	constraint, ok := constraintOf(m, s, q.Target.Index)
	if !ok {
		return api.Question{}, false
	}
	if f < e {
		e, f = f, e
	}
	return api.Question{E: e, F: f, Target: api.Target{Index: constraint}}, true
}

func isSymmetry(m api.Model, s api.Swap) bool {
	for action := range m.Actions {
		if _, ok := actionOf(m, s, action); !ok {
			return false
		}
	}
	for constraint := range m.Constraints {
		if _, ok := constraintOf(m, s, constraint); !ok {
			return false
		}
	}
	return true
}

// every returns all swaps of a model.
func every(m api.Model) []api.Swap {
	var all []api.Swap
	for sort, size := range m.Sorts {
		for a := range size {
			for b := range size {
				if a < b {
					all = append(all, api.Swap{Sort: sort, A: a, B: b})
				}
			}
		}
	}
	return all
}

func symmetriesOf(m api.Model) []api.Swap {
	return slices.DeleteFunc(every(m), func(s api.Swap) bool { return !isSymmetry(m, s) })
}

// questions returns all questions of a model, in order.
func questions(m api.Model) []api.Question {
	var all []api.Question
	for e, a := range m.Actions {
		for f := range m.Actions {
			if e <= f {
				for i := range m.Constraints {
					all = append(all, api.Question{E: e, F: f, Target: api.Target{Index: i}})
				}
			}
			for i := range a.Effect.Hold {
				all = append(all, api.Question{E: e, F: f, Target: api.Target{Hold: true, Index: i}})
			}
		}
	}
	return all
}

// wayOf returns the way from a question to another one: of all lists of some swaps, the shortest ones at first, in order, the first one that leads there.
func wayOf(m api.Model, swaps []api.Swap, from, to api.Question) ([]api.Swap, bool) {
	type step struct {
		q api.Question
		s api.Swap
	}
	known := map[step]api.Question{}
	behind := func(q api.Question, s api.Swap) api.Question {
		if _, ok := known[step{q, s}]; !ok {
			known[step{q, s}], _ = questionOf(m, s, q)
		}
		return known[step{q, s}]
	}
	var lead func(q api.Question, length int) ([]api.Swap, bool)
	lead = func(q api.Question, length int) ([]api.Swap, bool) {
		if length == 0 {
			return nil, q == to
		}
		for _, s := range swaps {
			if rest, ok := lead(behind(q, s), length-1); ok {
				return append([]api.Swap{s}, rest...), true
			}
		}
		return nil, false
	}
	for length := range 7 {
		if way, ok := lead(from, length); ok {
			return way, true
		}
	}
	return nil, false
}

// orbitOf returns the orbit of a question, in order.
func orbitOf(m api.Model, swaps []api.Swap, q api.Question) []api.Question {
	inside := map[api.Question]bool{q: true}
	var enter func(q api.Question)
	enter = func(q api.Question) {
		for _, s := range swaps {
			if to, _ := questionOf(m, s, q); !inside[to] {
				inside[to] = true
				enter(to)
			}
		}
	}
	enter(q)
	return slices.DeleteFunc(questions(m), func(q api.Question) bool { return !inside[q] })
}
