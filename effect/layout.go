package effect

import (
	"maps"
	"slices"
	"strconv"

	"confluent/api"
	"confluent/cells"
	"confluent/checker"
)

// layout is a checked program with the sizes of its sorts.
type layout struct {
	program api.Program
	sizes   []int
}

func layoutOf(p api.Program) layout { return layout{p, cells.Sizes(p.Sorts)} }

// byName returns the values of variables. The first variable with a name counts.
func byName(variables []api.Variable) map[string]int {
	values := map[string]int{}
	for _, v := range slices.Backward(variables) {
		values[v.Name] = v.Value
	}
	return values
}

// total returns the terms of a NodeTotal, and whether its cells are there.
func (l layout) total(n api.Node, values map[string]int) ([]api.Term, bool) {
	var terms []api.Term
	for _, kid := range n.Kids {
		more, ok := l.term(kid, values)
		if !ok {
			return nil, false
		}
		terms = append(terms, more...)
	}
	return Collect(terms), true
}

// term returns the terms of a NodeTerm, one for each tuple of its sum columns, and whether its cells are there. A sum column hides a variable with its name.
func (l layout) term(n api.Node, values map[string]int) ([]api.Term, bool) {
	factor, columns := factorOf(n), n.Kids[1].Kids
	inner := maps.Clone(values)
	var terms []api.Term
	for _, tuple := range cells.Tuples(l.sizes, l.sorts(columns)) {
		for i, column := range columns {
			inner[column.Text] = tuple[i]
		}
		cell, ok := l.cell(n.Kids[2], inner)
		if !ok {
			return nil, false
		}
		terms = append(terms, api.Term{Cell: cell, Factor: factor})
	}
	return terms, true
}

// sorts returns the sorts of columns.
func (l layout) sorts(columns []api.Node) []int {
	var all []int
	for _, column := range columns {
		named := func(s api.Sort) bool { return s.Name == column.Kids[0].Text }
		all = append(all, slices.IndexFunc(l.program.Sorts, named))
	}
	return all
}

// factorOf returns the number of a NodeTerm with its sign.
func factorOf(term api.Node) int {
	factor := 1
	if number := term.Kids[0]; number.Kind == api.NodeNumber {
		factor, _ = strconv.Atoi(number.Text)
	}
	if term.Text == "-" {
		return -factor
	}
	return factor
}

// cell returns the cell that a NodeCell names, and whether there is one.
func (l layout) cell(n api.Node, values map[string]int) (int, bool) {
	var tuple []int
	for _, argument := range n.Kids {
		value, ok := values[argument.Text]
		if argument.Kind == api.NodeNumber {
			number, e := strconv.Atoi(argument.Text)
			value, ok = number, e == nil
		}
		if !ok {
			return 0, false
		}
		tuple = append(tuple, value)
	}
	table, _ := checker.Table(l.program, n.Text)
	cell, e := cells.Cell(l.sizes, l.program.Tables, table, tuple)
	return cell, e == api.OK
}
