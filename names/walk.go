package names

import (
	"confluent/api"
)

// declaration goes through a declaration on the outermost level.
func (r *resolver) declaration(n api.Node) {
	number := r.enter(n, nowhere)
	own := within(empty(number))
	switch n.Kind {
	case api.NodeSort:
		r.declare(number, api.DeclSort, r.outermost)
		r.visitAll(n.Kids, nowhere)
	case api.NodeInvariant:
		r.declare(number, api.DeclInvariant, r.outermost)
		r.invariant(n.Kids[0], own)
	case api.NodeOperation:
		r.declare(number, api.DeclOperation, r.outermost)
		r.items(n.Kids[0], api.DeclParameter, own)
		r.visit(n.Kids[1], nowhere)
		r.visit(n.Kids[2], own)
	default:
		r.declare(number, api.DeclTable, r.outermost)
		r.tables[number] = own
		r.items(n.Kids[0], api.DeclColumn, own)
		r.visitAll(n.Kids[1:], nowhere)
	}
}

// items goes through NodeColumns or NodeParameters, whose Kids are declared on a level.
func (r *resolver) items(n api.Node, kind int, l level) {
	r.enter(n, nowhere)
	for _, kid := range n.Kids {
		r.item(kid, kind, l)
	}
}

func (r *resolver) item(n api.Node, kind int, l level) {
	r.declare(r.enter(n, nowhere), kind, l)
	if values := n.Kids[0]; values.Kind == api.NodeName {
		r.useOutermost(r.enter(values, nowhere), api.DeclSort)
	} else {
		r.visit(values, nowhere)
	}
}

// invariant goes through the part of an invariant that says what it demands.
func (r *resolver) invariant(n api.Node, variables level) {
	number := r.enter(n, nowhere)
	if n.Kind == api.NodeLinear {
		r.items(n.Kids[0], api.DeclVariable, variables)
		r.visit(n.Kids[1], variables)
		r.visit(n.Kids[2], nowhere)
		return
	}
	r.useOutermost(number, api.DeclTable)
	switch n.Kind {
	case api.NodeKey, api.NodeCount:
		r.enter(n.Kids[0], nowhere)
		for _, kid := range n.Kids[0].Kids {
			r.useColumn(r.enter(kid, nowhere), number)
		}
		r.visitAll(n.Kids[1:], nowhere)
	case api.NodeReference:
		r.useColumn(r.enter(n.Kids[0], nowhere), number)
		r.useOutermost(r.enter(n.Kids[1], nowhere), api.DeclTable)
		r.visit(n.Kids[2], nowhere)
	}
}

// visit goes through a node in a place where all names in expressions and cells stand for variables.
func (r *resolver) visit(n api.Node, s scope) {
	number := r.enter(n, s)
	switch n.Kind {
	case api.NodeName:
		r.use(number, s)
	case api.NodeCell:
		r.useOutermost(number, api.DeclTable)
		r.visitAll(n.Kids, s)
	case api.NodeTerm:
		r.term(n, s)
	case api.NodeFor:
		inner := within(s)
		r.item(n.Kids[0], api.DeclVariable, inner)
		r.visitAll(n.Kids[1:], inner)
	default:
		r.visitAll(n.Kids, s)
	}
}

func (r *resolver) visitAll(kids []api.Node, s scope) {
	for _, kid := range kids {
		r.visit(kid, s)
	}
}

// term goes through the parts of a term: the variables of its sum are visible only in its cell.
func (r *resolver) term(n api.Node, s scope) {
	r.visit(n.Kids[0], s)
	inner := within(s)
	if columns := n.Kids[1]; columns.Kind == api.NodeColumns {
		r.items(columns, api.DeclVariable, inner)
	} else {
		r.visit(columns, s)
	}
	r.visit(n.Kids[2], inner)
}
