// Package table is no layer: it tells tables apart by what their kinds have in common.
package table

import (
	"confluent/api"
)

// Strict reports whether the cells of a table are strict ones.
func Strict(t api.Table) bool {
	return t.Kind == api.TableRelation || t.Kind == api.TableCounter
}

// Set reports whether a table is a convergent set.
func Set(t api.Table) bool {
	return t.Kind == api.TableAddWins || t.Kind == api.TableRemoveWins
}

// Register reports whether a table is a convergent register.
func Register(t api.Table) bool {
	return t.Kind == api.TableLastWriter || t.Kind == api.TableMultiValue
}

// Square reports whether a table is a relation of elements of one sort, which is what graphs are.
func Square(t api.Table) bool {
	return t.Kind == api.TableRelation && len(t.Columns) == 2 && t.Columns[0] == t.Columns[1]
}

// Graph reports whether the cells of a graph are those of a table over sizes of sorts.
func Graph(t api.Table, sizes []int, c api.Constraint) bool {
	return Square(t) && t.First == c.First && sizes[t.Columns[0]] == c.Size
}
