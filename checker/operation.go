package checker

import (
	"slices"

	"confluent/api"
	"confluent/expression"
)

// operation is the work on an operation, with the variables that are visible in a place of it.
type operation struct {
	*work
	variables []api.Variable
}

// statement reports what is wrong with statements of a kind.
type statement func(o operation, s *spot)

func statements() map[int]statement {
	return map[int]statement{
		api.NodeRequire: operation.checkRequire,
		api.NodeHold:    operation.checkHold,
		api.NodeInsert:  operation.checkTuple,
		api.NodeDelete:  operation.checkTuple,
		api.NodeAdd:     operation.checkAdd,
		api.NodePut:     operation.checkElement,
		api.NodeDrop:    operation.checkElement,
		api.NodeAssign:  operation.checkAssign,
		api.NodeFor:     operation.checkFor,
	}
}

func (w *work) checkOperation(s *spot) {
	index := w.indices[s.number]
	block := s.kids[2]
	if index >= api.MaxOperations || isFirst(index, api.MaxActions, w.instancesOf) || w.isLong(block) {
		w.report(s, api.DiagMany)
	}
	operation{w, Variables(w.program, index)}.checkBlock(block)
}

// isLong reports whether a block has too many statements, with all loops expanded.
func (w *work) isLong(block *spot) bool {
	all := func(int) bool { return true }
	holds := func(kind int) bool { return kind == api.NodeHold }
	updates := func(kind int) bool {
		return kind == api.NodePut || kind == api.NodeDrop || kind == api.NodeAssign
	}
	return w.expanded(block, all) > api.MaxStatements || w.expanded(block, holds) > api.MaxHold || w.expanded(block, updates) > api.MaxUpdates
}

func (o operation) checkBlock(s *spot) {
	all := statements()
	for _, kid := range s.kids {
		all[kid.Kind](o, kid)
	}
}

func (o operation) checkRequire(s *spot) { o.checkExpression(s.kids[0], api.TypeBool) }

// checkHold leaves the NodeTotal to its own rule.
func (o operation) checkHold(s *spot) { o.checkExpression(s.kids[1].kids[0], api.TypeInt) }

func (o operation) checkTuple(s *spot) { o.checkCell(s.kids[0], api.TableRelation) }

func (o operation) checkElement(s *spot) {
	o.checkCell(s.kids[0], api.TableAddWins, api.TableRemoveWins)
}

func (o operation) checkAdd(s *spot) {
	o.checkExpression(s.kids[0], api.TypeInt)
	o.checkCell(s.kids[1], api.TableCounter)
}

func (o operation) checkAssign(s *spot) {
	registers := []int{api.TableLastWriter, api.TableMultiValue}
	cell, value := s.kids[0], s.kids[1]
	o.checkCell(cell, registers...)
	o.checkExpression(value, api.TypeInt)
	table := o.table(cell)
	r, ok := expression.Interval(value.Node, o.variables, o.program.Sorts)
	if ok && slices.Contains(registers, table.Kind) && (r.Lo < table.Range.Lo || r.Hi > table.Range.Hi) {
		o.report(value, api.DiagValue)
	}
}

func (o operation) checkFor(s *spot) {
	column, condition := s.kids[0], s.kids[1]
	variable := api.Variable{Name: column.Text, Sort: o.sortNamed(column)}
	inner := operation{o.work, append(slices.Clone(o.variables), variable)}
	if condition.Kind != api.NodeNone {
		inner.checkExpression(condition, api.TypeBool)
	}
	inner.checkBlock(s.kids[2])
}

// checkExpression reports what is wrong with an expression that must have a type.
func (o operation) checkExpression(s *spot, kind int) {
	found, wrong := expression.Check(s.Node, o.variables, o.program.Sorts)
	for _, d := range wrong {
		o.wrong = append(o.wrong, mistake{s.number, d})
	}
	if len(wrong) == 0 && found != kind {
		o.report(s, api.DiagType)
	}
}
