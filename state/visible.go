package state

import (
	"confluent/api"
	"confluent/cells"
)

// Visible returns for each strict cell whether it is visible in a state.
func Visible(m api.Model, state []int) []bool {
	if !isState(m, state) {
		return nil
	}
	targets := targetsOf(m)
	found := map[int]bool{}
	// The references form no cycle, so a cell is never asked for while it is looked for.
	var visible func(all ...int) bool
	visible = func(all ...int) bool {
		for _, cell := range all {
			if _, ok := found[cell]; !ok {
				found[cell] = state[cell] >= 1 && visible(targets[cell]...)
			}
			if !found[cell] {
				return false
			}
		}
		return true
	}
	var results []bool
	for cell := range state {
		results = append(results, visible(cell))
	}
	return results
}

// targetsOf returns the cells that the references with hide lead to from each cell: without all of them it is not visible.
func targetsOf(m api.Model) map[int][]int {
	targets := map[int][]int{}
	for _, h := range m.Hides {
		relation, to := m.Tables[h.Table], m.Tables[h.To]
		for i, tuple := range cells.Tuples(m.Sorts, relation.Columns) {
			cell := relation.First + i
			targets[cell] = append(targets[cell], to.First+tuple[h.Column])
		}
	}
	return targets
}
