package checker

import (
	"slices"

	"confluent/api"
)

// rule reports what is wrong with nodes of a kind.
type rule func(w *work, s *spot)

func rules() map[int]rule {
	return map[int]rule{
		api.NodeSort:       (*work).checkSort,
		api.NodeRelation:   (*work).checkTable,
		api.NodeCounter:    (*work).checkTable,
		api.NodeSet:        (*work).checkTable,
		api.NodeRegister:   (*work).checkTable,
		api.NodeColumns:    (*work).checkColumns,
		api.NodeRange:      (*work).checkRange,
		api.NodeInvariant:  (*work).checkInvariant,
		api.NodeKey:        (*work).checkRelation,
		api.NodeCount:      (*work).checkRelation,
		api.NodeAcyclic:    (*work).checkAcyclic,
		api.NodeReference:  (*work).checkReference,
		api.NodeNames:      (*work).checkNames,
		api.NodeTotal:      (*work).checkTotal,
		api.NodeTerm:       (*work).checkTerm,
		api.NodeOperation:  (*work).checkOperation,
		api.NodeParameters: (*work).checkParameters,
	}
}

func (w *work) applyRules() {
	all := rules()
	for _, s := range w.spots {
		if check, ok := all[s.Kind]; ok {
			check(w, s)
		}
	}
}

// isFirst reports whether the declaration with an index is the first one with which a sum over the declarations up to it is greater than a limit.
func isFirst(index, limit int, sum func(declarations int) int) bool {
	return sum(index+1) > limit && (index == 0 || sum(index) <= limit)
}

func (w *work) checkSort(s *spot) {
	if w.indices[s.number] >= api.MaxSorts {
		w.report(s, api.DiagMany)
	}
	if size := number(s.kids[0]); size < 1 || size > api.MaxElements {
		w.report(s.kids[0], api.DiagSize)
	}
}

func (w *work) checkTable(s *spot) {
	index := w.indices[s.number]
	strictCells := func(tables int) int { return w.cells(tables, true) }
	mergedCells := func(tables int) int { return w.cells(tables, false) }
	if index >= api.MaxTables || isFirst(index, api.MaxCells, strictCells) || isFirst(index, api.MaxMerged, mergedCells) {
		w.report(s, api.DiagMany)
	}
}

func (w *work) checkColumns(s *spot) {
	if len(s.kids) > api.MaxColumns {
		w.report(s, api.DiagMany)
	}
}

func (w *work) checkRange(s *spot) {
	if r := interval(s); r.Lo > r.Hi {
		w.report(s, api.DiagSize)
	}
}

func (w *work) checkInvariant(s *spot) {
	index := w.indices[s.number]
	if index >= api.MaxInvariants || isFirst(index, api.MaxConstraints, w.constraints) {
		w.report(s, api.DiagMany)
	}
}

// checkRelation reports a node whose table is no relation.
func (w *work) checkRelation(s *spot) {
	if w.table(s).Kind != api.TableRelation {
		w.report(s, api.DiagKind)
	}
}

func (w *work) checkAcyclic(s *spot) {
	w.checkRelation(s)
	if columns := w.table(s).Columns; len(columns) != 2 {
		w.report(s, api.DiagColumns)
	} else if columns[0] != columns[1] {
		w.report(s, api.DiagSort)
	}
}

func (w *work) checkReference(s *spot) {
	w.checkRelation(s)
	if s.kids[2].Kind == api.NodeWord && w.reaches(w.declaration(s.kids[1]), w.declaration(s)) {
		w.report(s, api.DiagCycle)
	}
	column, target := s.kids[0], s.kids[1]
	to := w.table(target)
	one := to.Kind == api.TableRelation && len(to.Columns) == 1
	if one && w.sortOf(column) != to.Columns[0] {
		w.report(column, api.DiagSort)
	}
	if to.Kind != api.TableRelation || w.declaration(target) == w.declaration(s) {
		w.report(target, api.DiagKind)
	} else if !one {
		w.report(target, api.DiagColumns)
	}
}

// reaches reports whether a table is reached from another one by references with hide. Both are the numbers of their nodes.
func (w *work) reaches(from, to int) bool {
	reached := []int{from}
	for next := 0; next < len(reached); next++ {
		for _, i := range w.program.Invariants {
			s := w.spots[i.Node].kids[0]
			if s.Kind != api.NodeReference || s.kids[2].Kind != api.NodeWord || w.declaration(s) != reached[next] {
				continue
			}
			if target := w.declaration(s.kids[1]); !slices.Contains(reached, target) {
				reached = append(reached, target)
			}
		}
	}
	return slices.Contains(reached, to)
}

func (w *work) checkNames(s *spot) {
	named := map[string]bool{}
	for _, kid := range s.kids {
		if named[kid.Text] {
			w.report(kid, api.DiagDeclared)
		}
		named[kid.Text] = true
	}
}

func (w *work) checkTotal(s *spot) {
	sum := 0
	for _, term := range s.kids {
		factor := 1
		if term.kids[0].Kind == api.NodeNumber {
			factor = number(term.kids[0])
		}
		sum = plus(sum, times(factor, w.tuples(w.sorts(term.kids[1]))))
	}
	if sum > api.MaxFactor {
		w.report(s, api.DiagSize)
	}
}

func (w *work) checkTerm(s *spot) {
	if factor := s.kids[0]; factor.Kind == api.NodeNumber && number(factor) == 0 {
		w.report(factor, api.DiagSize)
	}
	w.checkCell(s.kids[2], api.TableRelation, api.TableCounter)
}

// checkCell reports what is wrong with a cell of which the table must be of one of some kinds.
func (w *work) checkCell(s *spot, kinds ...int) {
	table := w.table(s)
	if !slices.Contains(kinds, table.Kind) {
		w.report(s, api.DiagKind)
	}
	if len(s.kids) != len(table.Columns) {
		w.report(s, api.DiagColumns)
		return
	}
	for i, argument := range s.kids {
		w.checkArgument(argument, table.Columns[i])
	}
}

// checkArgument reports what is wrong with an argument for a column of a sort.
func (w *work) checkArgument(s *spot, sort int) {
	switch {
	case s.Kind == api.NodeName && w.sortOf(s) != sort:
		w.report(s, api.DiagSort)
	case s.Kind == api.NodeNumber && number(s) >= w.program.Sorts[sort].Size:
		w.report(s, api.DiagSize)
	}
}

func (w *work) checkParameters(s *spot) {
	if len(s.kids) > api.MaxParameters {
		w.report(s, api.DiagMany)
	}
}
