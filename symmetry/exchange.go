package symmetry

import (
	"slices"

	"confluent/api"
	"confluent/model"
	"confluent/table"
)

// exchange is a swap of a valid model, and what the strict and the convergent cells become by it.
type exchange struct {
	api.Model
	swap           api.Swap
	strict, merged []int
}

// exchangeOf returns the exchange of a swap, and whether the model is valid and the swap one of it.
func exchangeOf(m api.Model, s api.Swap) (exchange, bool) {
	if !model.Valid(m) || !slices.Contains(swaps(m.Sorts), s) {
		return exchange{}, false
	}
	return newExchange(m, s), true
}

func newExchange(m api.Model, s api.Swap) exchange {
	x := exchange{Model: m, swap: s}
	for _, t := range m.Tables {
		if table.Strict(t) {
			x.strict = append(x.strict, x.cells(t)...)
		} else {
			x.merged = append(x.merged, x.cells(t)...)
		}
	}
	return x
}

// swaps returns all swaps of sorts with some sizes, by increasing Sort, A and B.
func swaps(sizes []int) []api.Swap {
	var all []api.Swap
	for sort, size := range sizes {
		for a := range size {
			for b := a + 1; b < size; b++ {
				all = append(all, api.Swap{Sort: sort, A: a, B: b})
			}
		}
	}
	return all
}

// cells returns what the cells of a table become.
func (x *exchange) cells(t api.Table) []int {
	count := 1
	for _, sort := range t.Columns {
		count *= x.Sorts[sort]
	}
	var all []int
	for position := range count {
		all = append(all, t.First+x.position(t.Columns, position))
	}
	return all
}

// position returns where the tuple stands among those of columns that the tuple in a position becomes. A position is a number whose digits are the elements.
func (x *exchange) position(columns []int, position int) int {
	changed, weight := 0, 1
	for _, sort := range slices.Backward(columns) {
		size := x.Sorts[sort]
		changed += weight * x.element(sort, position%size)
		position /= size
		weight *= size
	}
	return changed
}

// element returns what an element of a sort becomes. The numbers of an int are elements of no sort.
func (x *exchange) element(sort, element int) int {
	switch {
	case sort == x.swap.Sort && element == x.swap.A:
		return x.swap.B
	case sort == x.swap.Sort && element == x.swap.B:
		return x.swap.A
	}
	return element
}

func (x *exchange) arguments(a api.Action) []int {
	changed := slices.Clone(a.Arguments)
	for i, sort := range x.Operations[a.Operation].Sorts {
		changed[i] = x.element(sort, changed[i])
	}
	return changed
}
