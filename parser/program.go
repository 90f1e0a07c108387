package parser

import (
	"slices"

	"confluent/api"
)

// part reads a part of the grammar as a node.
type part func() api.Node

func (p *parser) program() api.Node {
	var declarations []api.Node
	for p.kind() != api.TokenEnd {
		declarations = append(declarations, p.declaration())
	}
	return api.Node{Kind: api.NodeProgram, End: len(p.text), Kids: declarations}
}

func (p *parser) declaration() api.Node {
	switch p.word() {
	case "sort":
		return p.declare(api.NodeSort, p.numeral)
	case "relation":
		return p.declare(api.NodeRelation, p.columns)
	case "counter":
		return p.declare(api.NodeCounter, p.columns, p.after("in", p.interval))
	case "set":
		return p.declare(api.NodeSet, p.columns, p.oneOf("addwins", "removewins"))
	case "register":
		return p.declare(api.NodeRegister, p.columns, p.after("in", p.interval), p.oneOf("last", "multi"))
	case "invariant":
		return p.declare(api.NodeInvariant, p.after(":", p.requirement))
	case "operation":
		start := p.next
		p.read()
		return p.node(start, api.NodeOperation, p.name(), p.each(p.parameters, p.optional("ordered"), p.block)...)
	}
	return p.skipDeclaration()
}

// declare reads a keyword, the name that it declares, some parts and a semicolon.
func (p *parser) declare(kind int, parts ...part) api.Node {
	start := p.next
	p.read()
	name := p.name()
	kids := p.each(parts...)
	p.expect(";")
	return p.node(start, kind, name, kids...)
}

// skipDeclaration reads what begins no declaration.
func (p *parser) skipDeclaration() api.Node {
	p.miss(api.DiagDeclaration, "")
	start := p.next
	for p.kind() != api.TokenEnd && !beginsDeclaration(p.word()) {
		p.read()
	}
	return p.node(start, api.NodeError, "")
}

// requirement reads what stands behind the colon of an invariant.
func (p *parser) requirement() api.Node {
	start := p.next
	switch {
	case p.accept("key"):
		return p.node(start, api.NodeKey, p.name(), p.names())
	case p.accept("reference"):
		name := p.name()
		p.expect("(")
		column := p.identifier()
		p.expect(")")
		target := p.after("to", p.identifier)()
		return p.node(start, api.NodeReference, name, column, target, p.optional("hide")())
	case p.accept("count"):
		return p.node(start, api.NodeCount, p.name(), p.each(p.names, p.bound(p.integer))...)
	case p.accept("acyclic"):
		return p.node(start, api.NodeAcyclic, p.name())
	case p.accept("all"):
		return p.node(start, api.NodeLinear, "", p.each(p.columns, p.total, p.bound(p.integer))...)
	}
	p.miss(api.DiagExpected, "invariant")
	return p.empty(api.NodeError)
}

func (p *parser) columns() api.Node    { return p.list(api.NodeColumns, p.column) }
func (p *parser) names() api.Node      { return p.list(api.NodeNames, p.identifier) }
func (p *parser) parameters() api.Node { return p.list(api.NodeParameters, p.parameter) }

// list reads a node that is nothing but elements in parentheses.
func (p *parser) list(kind int, element part) api.Node {
	start := p.next
	return p.node(start, kind, "", p.elements(element)...)
}

// elements reads elements in parentheses, with commas between them.
func (p *parser) elements(element part) []api.Node {
	var kids []api.Node
	p.expect("(")
	if !p.is(")") {
		kids = append(kids, element())
		for p.accept(",") {
			kids = append(kids, element())
		}
	}
	p.expect(")")
	return kids
}

func (p *parser) column() api.Node {
	start := p.next
	return p.node(start, api.NodeColumn, p.name(), p.after(":", p.identifier)())
}

func (p *parser) parameter() api.Node {
	start := p.next
	name := p.name()
	switch p.choose(":", "in") {
	case ":":
		return p.node(start, api.NodeParameter, name, p.identifier())
	case "in":
		return p.node(start, api.NodeParameter, name, p.interval())
	}
	return p.node(start, api.NodeParameter, name, p.empty(api.NodeError))
}

func (p *parser) interval() api.Node {
	start := p.next
	return p.node(start, api.NodeRange, "", p.each(p.integer, p.after("..", p.integer))...)
}

func (p *parser) total() api.Node {
	start := p.next
	terms := []api.Node{p.term("-")}
	for p.is("+", "-") {
		terms = append(terms, p.term("+", "-"))
	}
	return p.node(start, api.NodeTotal, "", terms...)
}

// term reads a term, behind its sign if one of some signs is next.
func (p *parser) term(signs ...string) api.Node {
	start, sign := p.next, "+"
	if p.is(signs...) {
		sign = p.read()
	}
	return p.node(start, api.NodeTerm, sign, p.each(p.factor, p.summed, p.cell)...)
}

func (p *parser) factor() api.Node {
	if p.kind() != api.TokenNumber {
		return p.empty(api.NodeNone)
	}
	factor := p.numeral()
	p.expect("*")
	return factor
}

func (p *parser) summed() api.Node {
	if !p.accept("sum") {
		return p.empty(api.NodeNone)
	}
	return p.columns()
}

func (p *parser) cell() api.Node {
	start := p.next
	return p.node(start, api.NodeCell, p.name(), p.elements(p.argument)...)
}

func (p *parser) argument() api.Node {
	switch p.kind() {
	case api.TokenName:
		return p.identifier()
	case api.TokenNumber:
		return p.numeral()
	}
	p.miss(api.DiagExpected, "name")
	return p.empty(api.NodeError)
}

// bound returns a part that reads a sign and the value behind it.
func (p *parser) bound(value part) part {
	return func() api.Node {
		start := p.next
		return p.node(start, api.NodeBound, p.choose("<=", ">="), value())
	}
}

func (p *parser) identifier() api.Node {
	start := p.next
	return p.node(start, api.NodeName, p.name())
}

func (p *parser) numeral() api.Node {
	start := p.next
	return p.node(start, api.NodeNumber, p.number())
}

func (p *parser) integer() api.Node {
	start := p.next
	sign := ""
	if p.is("-") {
		sign = p.read()
	}
	number := p.number()
	if number == "" || number == "0" {
		sign = ""
	}
	return p.node(start, api.NodeInteger, sign+number)
}

// oneOf returns a part that reads one of some keywords.
func (p *parser) oneOf(words ...string) part {
	return func() api.Node {
		start := p.next
		if word := p.choose(words...); word != "" {
			return p.node(start, api.NodeWord, word)
		}
		return p.empty(api.NodeError)
	}
}

// optional returns a part that reads a keyword if it is there.
func (p *parser) optional(word string) part {
	return func() api.Node {
		if !p.is(word) {
			return p.empty(api.NodeNone)
		}
		return p.oneOf(word)()
	}
}

// after returns a part that reads another one behind a keyword or symbol, which belongs to the node above it.
func (p *parser) after(word string, other part) part {
	return func() api.Node {
		p.expect(word)
		return other()
	}
}

// each reads parts one behind the other.
func (p *parser) each(parts ...part) []api.Node {
	kids := make([]api.Node, 0, len(parts))
	for _, read := range parts {
		kids = append(kids, read())
	}
	return kids
}

func beginsDeclaration(word string) bool {
	return slices.Contains([]string{"sort", "relation", "counter", "set", "register", "invariant", "operation"}, word)
}
