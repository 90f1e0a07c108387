// Package block is no layer: it goes through the statements of operations, for the layers that decide by them which instances are enabled and what these do.
package block

import (
	"iter"
	"slices"

	"confluent/api"
	"confluent/checker"
	"confluent/expression"
	"confluent/syntax"
)

// Statements returns an iterator over the statements of an instance of a checked program that are reached, in order, with all loops expanded: each statement that is no for, with the variables that are visible there and their values. The arguments must be some of the domain of the operation.
func Statements(p api.Program, procedure int, arguments []int) iter.Seq2[api.Node, []api.Variable] {
	path, _ := syntax.Path(p.Tree, p.Procedures[procedure].Node)
	operation, _ := syntax.Get(p.Tree, path...)
	variables := expression.Bind(checker.Variables(p, procedure), arguments)
	return func(yield func(api.Node, []api.Variable) bool) {
		walk{p.Sorts, yield}.block(operation.Kids[2], variables)
	}
}

// walk is a way through the statements of an operation. Its methods report whether it goes on.
type walk struct {
	sorts []api.Sort
	yield func(s api.Node, variables []api.Variable) bool
}

func (w walk) block(n api.Node, variables []api.Variable) bool {
	for _, s := range n.Kids {
		next := w.yield
		if s.Kind == api.NodeFor {
			next = w.loop
		}
		if !next(s, variables) {
			return false
		}
	}
	return true
}

func (w walk) loop(n api.Node, variables []api.Variable) bool {
	column, condition, block := n.Kids[0], n.Kids[1], n.Kids[2]
	sort := slices.IndexFunc(w.sorts, func(s api.Sort) bool { return s.Name == column.Kids[0].Text })
	for element := range w.sorts[sort].Size {
		inner := append(slices.Clone(variables), api.Variable{Name: column.Text, Sort: sort, Value: element})
		if w.reached(condition, inner) && !w.block(block, inner) {
			return false
		}
	}
	return true
}

// reached reports whether the block of a for is done where its condition, if there is one, has some variables.
func (w walk) reached(condition api.Node, variables []api.Variable) bool {
	if condition.Kind == api.NodeNone {
		return true
	}
	value, _ := expression.Evaluate(condition, variables, w.sorts)
	return value == 1
}
