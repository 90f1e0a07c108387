package constraint

import (
	"slices"
	"strconv"

	"confluent/api"
	"confluent/cells"
	"confluent/checked"
	"confluent/checker"
	"confluent/effect"
	"confluent/row"
	"confluent/syntax"
)

// declarations is what a checked program declares, with the sizes of its sorts.
type declarations struct {
	program api.Program
	sizes   []int
}

func newDeclarations(p api.Program) declarations { return declarations{p, cells.Sizes(p.Sorts)} }

// ranges returns the constraints of a strict table.
func (d declarations) ranges(t api.Table) []api.Constraint {
	var all []api.Constraint
	for i := range d.tuples(t.Columns) {
		x := t.First + i
		all = append(all, bounded([]api.Term{{Cell: x, Factor: 1}}, ">=", t.Range.Lo), bounded([]api.Term{{Cell: x, Factor: 1}}, "<=", t.Range.Hi))
	}
	return all
}

// kinds returns the methods that turn invariants into constraints, by the kinds of the nodes that describe them. The number is that of the node.
func kinds() map[int]func(d declarations, n api.Node, number int) []api.Constraint {
	return map[int]func(d declarations, n api.Node, number int) []api.Constraint{
		api.NodeKey:       declarations.key,
		api.NodeCount:     declarations.count,
		api.NodeReference: declarations.reference,
		api.NodeAcyclic:   declarations.acyclic,
		api.NodeLinear:    declarations.linear,
	}
}

// invariant returns the constraints of an invariant.
func (d declarations) invariant(i api.Invariant) []api.Constraint {
	path, _ := syntax.Path(d.program.Tree, i.Node)
	path = append(path, 0)
	n, _ := syntax.Get(d.program.Tree, path...)
	number, _ := syntax.Number(d.program.Tree, path...)
	return kinds()[n.Kind](d, n, number)
}

func (d declarations) key(n api.Node, _ int) []api.Constraint {
	return d.sums(n, "<=", 1)
}

func (d declarations) count(n api.Node, _ int) []api.Constraint {
	sign, bound := limit(n.Kids[1])
	return d.sums(n, sign, bound)
}

// sums returns for each tuple of the columns that a NodeKey or a NodeCount names a bound of how many tuples of the relation have it there.
func (d declarations) sums(n api.Node, sign string, bound int) []api.Constraint {
	relation := d.table(n.Text)
	positions, columns := d.named(n)
	var all []api.Constraint
	for _, group := range d.tuples(columns) {
		var terms []api.Term
		for i, tuple := range d.tuples(relation.Columns) {
			if slices.Equal(part(tuple, positions), group) {
				terms = append(terms, api.Term{Cell: relation.First + i, Factor: 1})
			}
		}
		all = append(all, bounded(terms, sign, bound))
	}
	return all
}

// reference returns for each cell of a relation that it is at most the cell of the element that it refers to.
func (d declarations) reference(n api.Node, _ int) []api.Constraint {
	if n.Kids[2].Kind == api.NodeWord {
		return nil
	}
	relation, target := d.table(n.Text), d.table(n.Kids[1].Text)
	column := checked.Column(d.program, n.Text, n.Kids[0].Text)
	var all []api.Constraint
	for i, tuple := range d.tuples(relation.Columns) {
		terms := effect.Collect([]api.Term{{Cell: relation.First + i, Factor: 1}, {Cell: target.First + tuple[column], Factor: -1}})
		all = append(all, bounded(terms, "<=", 0))
	}
	return all
}

func (d declarations) acyclic(n api.Node, _ int) []api.Constraint {
	relation := d.table(n.Text)
	return []api.Constraint{{Kind: api.ConstraintAcyclic, First: relation.First, Size: d.sizes[relation.Columns[0]]}}
}

// linear returns for each tuple of the columns of a NodeLinear a bound of its total.
func (d declarations) linear(n api.Node, number int) []api.Constraint {
	inside, _ := syntax.Number(n, 1)
	sign, bound := limit(n.Kids[2])
	variables := d.variables(n.Kids[0])
	var all []api.Constraint
	for _, tuple := range d.tuples(sortsOf(variables)) {
		for i, element := range tuple {
			variables[i].Value = element
		}
		terms, _ := effect.Terms(d.program, number+inside, variables)
		all = append(all, bounded(terms, sign, bound))
	}
	return all
}

func bounded(terms []api.Term, sign string, bound int) api.Constraint {
	return api.Constraint{Kind: api.ConstraintRow, Row: row.Bounded(terms, sign, bound)}
}

// limit returns the sign and the integer of a NodeBound.
func limit(n api.Node) (string, int) {
	bound, _ := strconv.Atoi(n.Kids[0].Text)
	return n.Text, bound
}

func (d declarations) tuples(columns []int) [][]int { return cells.Tuples(d.sizes, columns) }

func (d declarations) table(name string) api.Table {
	index, _ := checker.Table(d.program, name)
	return d.program.Tables[index]
}

// named returns the positions and the sorts of the columns that a NodeKey or a NodeCount names.
func (d declarations) named(n api.Node) (positions, sorts []int) {
	for _, name := range n.Kids[0].Kids {
		position := checked.Column(d.program, n.Text, name.Text)
		positions = append(positions, position)
		sorts = append(sorts, d.table(n.Text).Columns[position])
	}
	return positions, sorts
}

// part returns the elements of a tuple in some positions.
func part(tuple, positions []int) []int {
	var elements []int
	for _, position := range positions {
		elements = append(elements, tuple[position])
	}
	return elements
}

// variables returns the columns of a NodeColumns as variables.
func (d declarations) variables(columns api.Node) []api.Variable {
	var all []api.Variable
	for _, column := range columns.Kids {
		named := func(s api.Sort) bool { return s.Name == column.Kids[0].Text }
		all = append(all, api.Variable{Name: column.Text, Sort: slices.IndexFunc(d.program.Sorts, named)})
	}
	return all
}

func sortsOf(variables []api.Variable) []int {
	var sorts []int
	for _, v := range variables {
		sorts = append(sorts, v.Sort)
	}
	return sorts
}
