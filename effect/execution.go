package effect

import (
	"maps"
	"slices"

	"confluent/api"
	"confluent/block"
	"confluent/expression"
	"confluent/row"
)

// execution is the effect of the statements that have been executed, with the variables that are visible at the next one.
type execution struct {
	api.Effect
	layout
	variables []api.Variable
}

// execute returns the effect of an enabled instance of a checked program.
func execute(p api.Program, procedure int, arguments []int) api.Effect {
	x := &execution{layout: layoutOf(p)}
	methods := statements()
	for s, variables := range block.Statements(p, procedure, arguments) {
		if method, ok := methods[s.Kind]; ok {
			x.variables = variables
			method(x, s)
		}
	}
	return api.Effect{Delta: Join(x.Delta), Hold: x.Hold, Updates: last(x.Updates)}
}

// statements returns the methods that execute statements, by kinds. A require does nothing in an instance that is enabled.
func statements() map[int]func(x *execution, s api.Node) {
	return map[int]func(x *execution, s api.Node){
		api.NodeInsert: (*execution).insert,
		api.NodeDelete: (*execution).remove,
		api.NodeAdd:    (*execution).add,
		api.NodeHold:   (*execution).hold,
		api.NodePut:    (*execution).put,
		api.NodeDrop:   (*execution).drop,
		api.NodeAssign: (*execution).assign,
	}
}

func (x *execution) insert(s api.Node) { x.change(s.Kids[0], 1) }

func (x *execution) remove(s api.Node) { x.change(s.Kids[0], -1) }

func (x *execution) add(s api.Node) { x.change(s.Kids[1], x.value(s.Kids[0])) }

func (x *execution) hold(s api.Node) {
	terms, _ := x.total(s.Kids[0], byName(x.variables))
	bound := s.Kids[1]
	x.Hold = append(x.Hold, row.Bounded(terms, bound.Text, x.value(bound.Kids[0])))
}

func (x *execution) put(s api.Node) { x.update(s.Kids[0], api.UpdatePut, 0) }

func (x *execution) drop(s api.Node) { x.update(s.Kids[0], api.UpdateDrop, 0) }

func (x *execution) assign(s api.Node) { x.update(s.Kids[0], api.UpdateAssign, x.value(s.Kids[1])) }

// change notes what is added to the cell of a NodeCell.
func (x *execution) change(n api.Node, add int) {
	x.Delta = append(x.Delta, api.Change{Cell: x.here(n), Add: add})
}

// update notes an update of the cell of a NodeCell.
func (x *execution) update(n api.Node, kind, value int) {
	x.Updates = append(x.Updates, api.Update{Kind: kind, Cell: x.here(n), Value: value})
}

// here returns the cell that a NodeCell names for the variables that are visible.
func (x *execution) here(n api.Node) int {
	cell, _ := x.cell(n, byName(x.variables))
	return cell
}

func (x *execution) value(n api.Node) int {
	value, _ := expression.Evaluate(n, x.variables, x.program.Sorts)
	return value
}

// last returns the last update of each cell, by increasing cells.
func last(l []api.Update) []api.Update {
	byCell := map[int]api.Update{}
	for _, u := range l {
		byCell[u.Cell] = u
	}
	var kept []api.Update
	for _, cell := range slices.Sorted(maps.Keys(byCell)) {
		kept = append(kept, byCell[cell])
	}
	return kept
}
