package constraint

import (
	"slices"
	"strconv"
	"strings"

	"confluent/api"
	"confluent/cells"
	"confluent/table"
)

// rowWords returns the words of a row, or the empty string if a cell of it is no strict cell.
func (d declarations) rowWords(r api.Row) string {
	var text strings.Builder
	for i, t := range r.Terms {
		cell := cells.Format(d.sizes, d.program.Tables, true, t.Cell)
		if cell == "" {
			return ""
		}
		text.WriteString(sign(t.Factor, i == 0) + factor(t.Factor) + cell)
	}
	if len(r.Terms) == 0 {
		text.WriteString("0")
	}
	return text.String() + " <= " + strconv.Itoa(r.Bound)
}

// sign returns what stands in front of a term.
func sign(factor int, first bool) string {
	switch {
	case first && factor < 0:
		return "-"
	case first:
		return ""
	case factor < 0:
		return " - "
	}
	return " + "
}

// factor returns what stands in front of the cell of a term. The hyphen of a number is cut off, as the least int has no absolute value that is an int.
func factor(f int) string {
	digits := strings.TrimPrefix(strconv.Itoa(f), "-")
	if digits == "1" {
		return ""
	}
	return digits + " * "
}

// graphWords returns the words of a graph, or the empty string if it is that of no relation.
func (d declarations) graphWords(c api.Constraint) string {
	i := slices.IndexFunc(d.program.Tables, func(t api.Table) bool {
		return table.Square(t) && t.First == c.First && d.sizes[t.Columns[0]] == c.Size
	})
	if i < 0 {
		return ""
	}
	return "acyclic " + d.program.Tables[i].Name
}
