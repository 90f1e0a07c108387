package model

import (
	"slices"

	"confluent/api"
	"confluent/cells"
	"confluent/lexer"
	"confluent/table"
)

// maxFamilies is the greatest number of families: one for each table, and one for each invariant.
const maxFamilies = api.MaxTables + api.MaxInvariants

// examination is a model with a valid layout, and what is known of its cells.
type examination struct {
	api.Model
	strict []api.Range // the ranges of the strict cells
	merged []api.Table // the tables of the convergent cells
}

func examine(m api.Model) *examination {
	x := &examination{Model: m}
	for _, t := range m.Tables {
		for range cells.Tuples(m.Sorts, t.Columns) {
			if table.Strict(t) {
				x.strict = append(x.strict, t.Range)
			} else {
				x.merged = append(x.merged, t)
			}
		}
	}
	return x
}

func (x *examination) validFamilies() bool {
	return len(x.Families) <= maxFamilies && differ(x.Families)
}

// differ reports whether some texts are valid names, no two of which are equal.
func differ(names []string) bool {
	known := map[string]bool{}
	for _, name := range names {
		if known[name] || !lexer.Name(name) {
			return false
		}
		known[name] = true
	}
	return true
}

func (x *examination) validConstraints() bool {
	if len(x.Constraints) > api.MaxConstraints || !x.beginsWithRanges() {
		return false
	}
	for _, c := range x.Constraints {
		if c.Family < 0 || c.Family >= len(x.Families) || !x.validConstraint(c) {
			return false
		}
	}
	return true
}

// beginsWithRanges reports whether the first constraints say that the strict cells are in their ranges.
func (x *examination) beginsWithRanges() bool {
	if len(x.Constraints) < 2*len(x.strict) {
		return false
	}
	for cell, r := range x.strict {
		least, most := x.Constraints[2*cell], x.Constraints[2*cell+1]
		if !bounds(least, api.Term{Cell: cell, Factor: -1}, -r.Lo) || !bounds(most, api.Term{Cell: cell, Factor: 1}, r.Hi) {
			return false
		}
	}
	return true
}

// bounds reports whether a constraint is a row that says that a single term is at most a bound.
func bounds(c api.Constraint, t api.Term, bound int) bool {
	return c.Kind == api.ConstraintRow && len(c.Row.Terms) == 1 && c.Row.Terms[0] == t && c.Row.Bound == bound
}

func (x *examination) validConstraint(c api.Constraint) bool {
	switch c.Kind {
	case api.ConstraintRow:
		return x.validRow(c.Row) && c.First == 0 && c.Size == 0
	case api.ConstraintAcyclic:
		return len(c.Row.Terms) == 0 && c.Row.Bound == 0 && x.validGraph(c)
	}
	return false
}

func (x *examination) validGraph(c api.Constraint) bool {
	return slices.ContainsFunc(x.Tables, func(t api.Table) bool { return table.Graph(t, x.Sorts, c) })
}

func (x *examination) validRow(r api.Row) bool {
	fits := ascent(len(x.strict))
	for _, t := range r.Terms {
		if !fits(t.Cell) || t.Factor == 0 || !within(t.Factor, api.MaxFactor) {
			return false
		}
	}
	return within(r.Bound, api.MaxBound)
}

// ascent returns a function that is called with the cells of a list, one after the other, and reports for each whether it is below a number and greater than the one before it.
func ascent(count int) func(cell int) bool {
	last := -1
	return func(cell int) bool {
		fits := last < cell && cell < count
		last = cell
		return fits
	}
}

// within reports whether a number is from the negative of a limit to this limit.
func within(number, limit int) bool { return -limit <= number && number <= limit }
