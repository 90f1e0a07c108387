// Package row is no layer: it makes the rows that programs declare, for hold statements and for invariants.
package row

import (
	"confluent/api"
)

// Bounded returns the row of terms with a sign (<= or >=) and a bound. A row says at most, so all that is at least a bound changes its sign.
func Bounded(terms []api.Term, sign string, bound int) api.Row {
	factor := 1
	if sign == ">=" {
		factor = -1
	}
	row := api.Row{Bound: factor * bound}
	for _, t := range terms {
		row.Terms = append(row.Terms, api.Term{Cell: t.Cell, Factor: factor * t.Factor})
	}
	return row
}
