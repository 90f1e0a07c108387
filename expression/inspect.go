package expression

import (
	"cmp"
	"slices"

	"confluent/api"
)

// finding is what is found of a node: its type and, if this is TypeInt, its interval.
type finding struct {
	node         api.Node
	number, kind int
	interval     api.Range
}

// mistake is a diagnostic for the node with a number.
type mistake struct {
	number     int
	diagnostic api.Diagnostic
}

// mistakes end the work on a node: they are what its rule panics with.
type mistakes []mistake

func (f finding) mistake(code int) mistake {
	return mistake{f.number, api.Diagnostic{Code: code, At: f.node.At, End: f.node.End}}
}

// inspector goes through the nodes of an expression in the order of their numbers.
type inspector struct {
	variables map[string]api.Variable
	sorts     []api.Sort
	rules     map[string]rule
	nodes     int // those that have been reached
	wrong     mistakes
}

// inspect returns what is found of an expression, and what is wrong in it.
func inspect(n api.Node, variables []api.Variable, sorts []api.Sort) (finding, []api.Diagnostic) {
	i := &inspector{variables: byName(variables), sorts: sorts, rules: rules(sorts)}
	found := i.find(n)
	slices.SortStableFunc(i.wrong, func(a, b mistake) int { return cmp.Compare(a.number, b.number) })
	var diagnostics []api.Diagnostic
	for _, m := range i.wrong {
		diagnostics = append(diagnostics, m.diagnostic)
	}
	return found, diagnostics
}

// find returns what is found of a node. Its type stays TypeNone if a rule ends the work on it.
func (i *inspector) find(n api.Node) (f finding) {
	f = finding{node: n, number: i.nodes, kind: api.TypeNone}
	i.nodes++
	defer func() {
		if wrong, ok := recover().(mistakes); ok {
			i.wrong = append(i.wrong, wrong...)
		}
	}()
	switch n.Kind {
	case api.NodeNumber:
		f.interval = api.Range{Lo: number(n), Hi: number(n)}
		f.kind = api.TypeInt
	case api.NodeName:
		v := i.variable(f)
		f.interval = v.Range
		f.kind = v.Sort
	default:
		var operands []finding
		for _, kid := range n.Kids {
			operands = append(operands, i.find(kid))
		}
		f.kind, f.interval = i.rules[n.Text](f, operands)
	}
	return f
}

// variable returns the variable that a NodeName stands for.
func (i *inspector) variable(f finding) api.Variable {
	v, ok := i.variables[f.node.Text]
	if !ok {
		m := f.mistake(api.DiagUnknown)
		m.diagnostic.Text = f.node.Text
		panic(mistakes{m})
	}
	return v
}
