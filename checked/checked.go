// Package checked is no layer: it recognizes the checked programs, for the layers that compute with these alone, and finds the columns that they name.
package checked

import (
	"slices"

	"confluent/api"
	"confluent/checker"
)

// Program reports whether a program is the one that checker.Tree returns for its tree.
func Program(p api.Program) bool {
	q, wrong, e := checker.Tree(p.Tree)
	return e == api.OK && len(wrong) == 0 &&
		slices.Equal(p.Sorts, q.Sorts) && slices.Equal(p.Invariants, q.Invariants) &&
		slices.EqualFunc(p.Tables, q.Tables, equalTables) && slices.EqualFunc(p.Procedures, q.Procedures, equalProcedures)
}

// Column returns the position of the column with a name in a table of a checked program. No other declaration on the outermost level has the name of the table.
func Column(p api.Program, table, name string) int {
	named := func(name string) func(n api.Node) bool {
		return func(n api.Node) bool { return n.Text == name }
	}
	declaration := p.Tree.Kids[slices.IndexFunc(p.Tree.Kids, named(table))]
	return slices.IndexFunc(declaration.Kids[0].Kids, named(name))
}

func equalTables(a, b api.Table) bool {
	return a.Name == b.Name && a.Kind == b.Kind && slices.Equal(a.Columns, b.Columns) && a.Range == b.Range && a.First == b.First
}

func equalProcedures(a, b api.Procedure) bool {
	return a.Name == b.Name && a.Ordered == b.Ordered && slices.Equal(a.Parameters, b.Parameters) && a.Node == b.Node
}
