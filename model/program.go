package model

import (
	"slices"

	"confluent/api"
	"confluent/checked"
	"confluent/checker"
	"confluent/effect"
	"confluent/instance"
)

// tables returns the tables of a program, without the memory of the program.
func tables(p api.Program) []api.Table {
	all := slices.Clone(p.Tables)
	for i := range all {
		all[i].Columns = slices.Clone(all[i].Columns)
	}
	return all
}

func operation(p api.Procedure) api.Operation {
	o := api.Operation{Name: p.Name, Ordered: p.Ordered}
	for _, parameter := range p.Parameters {
		o.Sorts = append(o.Sorts, parameter.Sort)
	}
	return o
}

// actions returns the enabled instances of an operation with their effects.
func actions(p api.Program, procedure int) []api.Action {
	var all []api.Action
	for _, arguments := range instance.All(p, procedure) {
		done, _ := effect.Of(p, procedure, arguments)
		all = append(all, api.Action{Operation: procedure, Arguments: arguments, Effect: done})
	}
	return all
}

// hides returns what the references with hide of a program say, in the order of the invariants.
func hides(p api.Program) []api.Hide {
	var all []api.Hide
	for _, declaration := range p.Tree.Kids {
		if declaration.Kind == api.NodeInvariant && isHide(declaration.Kids[0]) {
			all = append(all, hide(p, declaration.Kids[0]))
		}
	}
	return all
}

func isHide(n api.Node) bool {
	return n.Kind == api.NodeReference && n.Kids[2].Kind == api.NodeWord
}

// hide returns what a NodeReference with hide says.
func hide(p api.Program, n api.Node) api.Hide {
	column, target := n.Kids[0], n.Kids[1]
	relation, _ := checker.Table(p, n.Text)
	to, _ := checker.Table(p, target.Text)
	return api.Hide{Table: relation, Column: checked.Column(p, n.Text, column.Text), To: to}
}
