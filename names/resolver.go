package names

import (
	"confluent/api"
)

// place is a node with what a name in its place could stand for, and the code of what is wrong with the node, or 0.
type place struct {
	node  api.Node
	scope scope
	wrong int
}

// resolver goes through a program in the order of its nodes, and makes declarations.
// Variables are declared in front of all of their uses. What may be declared behind a use is looked for when the resolver is at the end.
type resolver struct {
	api.Resolution
	places    []place
	outermost level
	tables    map[int]level // the columns of tables, by the numbers of the nodes of these
	later     []func()
}

func resolve(n api.Node) *resolver {
	r := &resolver{outermost: within(nowhere), tables: map[int]level{}}
	r.enter(n, nowhere)
	for _, kid := range n.Kids {
		r.declaration(kid)
	}
	for _, find := range r.later {
		find()
	}
	return r
}

// diagnostics returns what is wrong, in the order of the nodes.
func (r *resolver) diagnostics() []api.Diagnostic {
	var all []api.Diagnostic
	for _, p := range r.places {
		if p.wrong != 0 {
			all = append(all, api.Diagnostic{Code: p.wrong, At: p.node.At, End: p.node.End, Text: p.node.Text})
		}
	}
	return all
}

// enter gives the next node its number.
func (r *resolver) enter(n api.Node, visible scope) int {
	r.places = append(r.places, place{node: n, scope: visible})
	r.Uses = append(r.Uses, -1)
	return len(r.places) - 1
}

// declare lets a node make a declaration on a level, unless its name is declared already.
func (r *resolver) declare(number, kind int, l level) {
	name := r.places[number].node.Text
	if _, ok := l.find(name); ok {
		r.places[number].wrong = api.DiagDeclared
		return
	}
	index := len(r.Declarations)
	r.Declarations = append(r.Declarations, api.Declaration{Kind: kind, Name: name, Node: number, Owner: l.owner()})
	r.Uses[number] = index
	l.own[name] = index
}

// use lets a node use what its name stands for in a scope.
func (r *resolver) use(number int, s scope) {
	index, ok := s.find(r.places[number].node.Text)
	if !ok {
		r.places[number].wrong = api.DiagUnknown
		return
	}
	r.Uses[number] = index
}

// useOutermost lets a node use a sort or a table.
func (r *resolver) useOutermost(number, kind int) {
	r.later = append(r.later, func() {
		index, ok := r.outermost.find(r.places[number].node.Text)
		if ok && r.Declarations[index].Kind != kind {
			r.places[number].wrong = api.DiagKind
			return
		}
		r.use(number, r.outermost)
	})
}

// useColumn lets a node use a column of the table that a node in front of it uses, if that uses one.
func (r *resolver) useColumn(number, above int) {
	r.later = append(r.later, func() {
		if table := r.Uses[above]; table >= 0 {
			r.use(number, r.tables[r.Declarations[table].Node])
		}
	})
}
