package instance

import (
	"iter"
	"slices"

	"confluent/api"
	"confluent/checker"
	"confluent/expression"
	"confluent/syntax"
)

// enabled reports whether an instance of a checked program is enabled.
func enabled(p api.Program, procedure int, arguments []int) bool {
	path, _ := syntax.Path(p.Tree, p.Procedures[procedure].Node)
	operation, _ := syntax.Get(p.Tree, path...)
	variables := expression.Bind(checker.Variables(p, procedure), arguments)
	return place{p.Sorts, variables}.demands(operation.Kids[2])
}

// place is a place in an operation, with the values of the variables that are visible there.
type place struct {
	sorts     []api.Sort
	variables []api.Variable
}

// demands reports whether all require statements of a block hold.
func (l place) demands(block api.Node) bool {
	for _, s := range block.Kids {
		switch {
		case s.Kind == api.NodeRequire && !l.holds(s.Kids[0]):
			return false
		case s.Kind == api.NodeFor && !l.demandsEach(s):
			return false
		}
	}
	return true
}

// demandsEach reports whether all require statements in a NodeFor hold.
func (l place) demandsEach(loop api.Node) bool {
	condition, block := loop.Kids[1], loop.Kids[2]
	for inner := range l.each(loop.Kids[0]) {
		reached := condition.Kind == api.NodeNone || inner.holds(condition)
		if reached && !inner.demands(block) {
			return false
		}
	}
	return true
}

// each returns an iterator over the places in the block of a NodeFor with a column, one for each element of its sort.
func (l place) each(column api.Node) iter.Seq[place] {
	sort := slices.IndexFunc(l.sorts, func(s api.Sort) bool { return s.Name == column.Kids[0].Text })
	return func(yield func(place) bool) {
		for element := range l.sorts[sort].Size {
			variable := api.Variable{Name: column.Text, Sort: sort, Value: element}
			if !yield(place{l.sorts, append(slices.Clone(l.variables), variable)}) {
				return
			}
		}
	}
}

// holds reports whether an expression is true.
func (l place) holds(condition api.Node) bool {
	value, _ := expression.Evaluate(condition, l.variables, l.sorts)
	return value == 1
}
