package checker

import (
	"confluent/api"
	"confluent/table"
)

// enough is what counts and products are cut to: it is greater than all limits.
const enough = 1 << 20

func plus(a, b int) int { return min(a+b, enough) }

// times returns a product of numbers that are at most enough. A product with a factor 0 is 0, also if the others were cut.
func times(a, b int) int { return min(a*b, enough) }

// values returns the number of values of a parameter, or MaxActions + 1 if there are more than MaxActions.
func values(p api.Program, parameter api.Parameter) int {
	if parameter.Sort == api.TypeInt {
		return numbers(parameter.Range)
	}
	if parameter.Sort < 0 || parameter.Sort >= len(p.Sorts) {
		return 0
	}
	return max(0, min(p.Sorts[parameter.Sort].Size, api.MaxActions+1))
}

// numbers returns how many numbers a range has, or MaxActions + 1 if there are more than MaxActions.
func numbers(r api.Range) int {
	if r.Lo > r.Hi {
		return 0
	}
	// The difference of two ints fits into an uint, if the first one is not less than the second one.
	if uint(r.Hi)-uint(r.Lo) > api.MaxActions {
		return api.MaxActions + 1
	}
	return r.Hi - r.Lo + 1
}

// tuples returns the number of tuples of columns.
func (w *work) tuples(columns []int) int {
	product := 1
	for _, sort := range columns {
		product = times(product, w.program.Sorts[sort].Size)
	}
	return product
}

// cells returns how many cells the first tables have that are strict, or that are not.
func (w *work) cells(tables int, isStrict bool) int {
	count := 0
	for _, t := range w.program.Tables[:tables] {
		if table.Strict(t) == isStrict {
			count = plus(count, w.tuples(t.Columns))
		}
	}
	return count
}

// constraints returns how many constraints the strict tables and the first invariants have.
func (w *work) constraints(invariants int) int {
	count := times(2, w.cells(len(w.program.Tables), true))
	for _, i := range w.program.Invariants[:invariants] {
		count = plus(count, w.instances(w.spots[i.Node].kids[0]))
	}
	return count
}

// instances returns how many constraints an invariant has.
func (w *work) instances(s *spot) int {
	switch s.Kind {
	case api.NodeKey, api.NodeCount:
		return w.tuples(w.different(s.kids[0]))
	case api.NodeReference:
		if s.kids[2].Kind == api.NodeWord {
			return 0
		}
		return w.tuples(w.table(s).Columns)
	case api.NodeLinear:
		return w.tuples(w.sorts(s.kids[0]))
	}
	return 1
}

// different returns the sorts of the columns that a NodeNames names, each column once.
func (w *work) different(list *spot) []int {
	var columns []int
	named := map[string]bool{}
	for _, s := range list.kids {
		if !named[s.Text] {
			columns = append(columns, w.sortOf(s))
		}
		named[s.Text] = true
	}
	return columns
}

// instancesOf returns how many instances the first operations have.
func (w *work) instancesOf(operations int) int {
	count := 0
	for i := range operations {
		count = plus(count, Domain(w.program, i))
	}
	return count
}

// expanded returns how often statements that count are in a block, with all loops expanded.
func (w *work) expanded(block *spot, counts func(kind int) bool) int {
	count := 0
	for _, s := range block.kids {
		own := 0
		if counts(s.Kind) {
			own = 1
		}
		if s.Kind == api.NodeFor {
			own = times(w.program.Sorts[w.sortNamed(s.kids[0])].Size, plus(own, w.expanded(s.kids[2], counts)))
		}
		count = plus(count, own)
	}
	return count
}
