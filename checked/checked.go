// Package checked is no layer: it recognizes the checked programs, for the layers that compute with these alone.
package checked

import (
	"slices"

	"confluent/api"
	"confluent/checker"
)

// Program reports whether a program is the one that checker.Tree returns for its tree.
func Program(p api.Program) bool {
	q, wrong, e := checker.Tree(p.Tree)
	return e == api.OK && len(wrong) == 0 &&
		slices.Equal(p.Sorts, q.Sorts) && slices.Equal(p.Invariants, q.Invariants) &&
		slices.EqualFunc(p.Tables, q.Tables, equalTables) && slices.EqualFunc(p.Procedures, q.Procedures, equalProcedures)
}

func equalTables(a, b api.Table) bool {
	return a.Name == b.Name && a.Kind == b.Kind && slices.Equal(a.Columns, b.Columns) && a.Range == b.Range && a.First == b.First
}

func equalProcedures(a, b api.Procedure) bool {
	return a.Name == b.Name && a.Ordered == b.Ordered && slices.Equal(a.Parameters, b.Parameters) && a.Node == b.Node
}
