// Package words is no layer: it writes rows and graphs in words.
package words

import (
	"slices"
	"strconv"
	"strings"

	"confluent/api"
	"confluent/table"
)

// Constraint returns the words of a constraint on tables, or the empty string if it is none that they could have. The function writes the text of a strict cell, or nothing if there is none.
func Constraint(sizes []int, tables []api.Table, c api.Constraint, cell func(int) string) string {
	switch c.Kind {
	case api.ConstraintRow:
		return Row(c.Row, cell)
	case api.ConstraintAcyclic:
		return graph(sizes, tables, c)
	}
	return ""
}

// Row returns the words of a row, or the empty string if one of its cells has no text.
func Row(r api.Row, cell func(int) string) string {
	var text strings.Builder
	for i, t := range r.Terms {
		name := cell(t.Cell)
		if name == "" {
			return ""
		}
		text.WriteString(sign(t.Factor, i == 0) + factor(t.Factor) + name)
	}
	if len(r.Terms) == 0 {
		text.WriteString("0")
	}
	return text.String() + " <= " + strconv.Itoa(r.Bound)
}

// sign returns what stands in front of a term.
func sign(factor int, first bool) string {
	switch {
	case first && factor < 0:
		return "-"
	case first:
		return ""
	case factor < 0:
		return " - "
	}
	return " + "
}

// factor returns what stands in front of the cell of a term. The hyphen of a number is cut off, as the least int has no absolute value that is an int.
func factor(f int) string {
	digits := strings.TrimPrefix(strconv.Itoa(f), "-")
	if digits == "1" {
		return ""
	}
	return digits + " * "
}

// graph returns the words of a graph, or the empty string if it is that of no relation.
func graph(sizes []int, tables []api.Table, c api.Constraint) string {
	i := slices.IndexFunc(tables, func(t api.Table) bool { return table.Graph(t, sizes, c) })
	if i < 0 {
		return ""
	}
	return "acyclic " + tables[i].Name
}
