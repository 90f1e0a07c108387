package parser

import (
	"slices"

	"confluent/api"
)

func (p *parser) block() api.Node {
	start := p.next
	var statements []api.Node
	if p.expect("{") {
		for p.kind() != api.TokenEnd && !p.is("}") && !beginsDeclaration(p.word()) {
			statements = append(statements, p.statement())
		}
		p.expect("}")
	}
	return p.node(start, api.NodeBlock, "", statements...)
}

func (p *parser) statement() api.Node {
	switch p.word() {
	case "require":
		return p.demand(api.NodeRequire, p.expression)
	case "hold":
		return p.demand(api.NodeHold, p.total, p.bound(p.expression))
	case "insert":
		return p.demand(api.NodeInsert, p.cell)
	case "delete":
		return p.demand(api.NodeDelete, p.cell)
	case "add":
		return p.demand(api.NodeAdd, p.expression, p.after("to", p.cell))
	case "put":
		return p.demand(api.NodePut, p.cell)
	case "drop":
		return p.demand(api.NodeDrop, p.cell)
	case "assign":
		return p.demand(api.NodeAssign, p.cell, p.after("=", p.expression))
	case "for":
		start := p.next
		p.read()
		return p.node(start, api.NodeFor, "", p.each(p.column, p.condition, p.block)...)
	}
	return p.skipStatement()
}

// demand reads a keyword, some parts and a semicolon.
func (p *parser) demand(kind int, parts ...part) api.Node {
	start := p.next
	p.read()
	kids := p.each(parts...)
	p.expect(";")
	return p.node(start, kind, "", kids...)
}

// skipStatement reads what begins no statement.
func (p *parser) skipStatement() api.Node {
	p.miss(api.DiagStatement, "")
	start := p.next
	for p.read() != ";" && !p.endsSkipped() {
	}
	return p.node(start, api.NodeError, "")
}

// endsSkipped reports whether what begins no statement ends in front of the next token.
func (p *parser) endsSkipped() bool {
	return p.kind() == api.TokenEnd || p.is("}") || beginsDeclaration(p.word()) || beginsStatement(p.word())
}

// condition reads the expression of a for, if there is one.
func (p *parser) condition() api.Node {
	if !p.accept("where") {
		return p.empty(api.NodeNone)
	}
	return p.expression()
}

func (p *parser) expression() api.Node {
	return p.chain(p.conjunction, "or")
}

func (p *parser) conjunction() api.Node {
	return p.chain(p.negation, "and")
}

func (p *parser) negation() api.Node {
	if p.is("not") {
		return p.prefixed(p.negation)
	}
	return p.comparison()
}

func (p *parser) comparison() api.Node {
	return p.operators(1, p.difference, "==", "!=", "<", "<=", ">", ">=")
}

func (p *parser) difference() api.Node {
	return p.chain(p.product, "+", "-")
}

func (p *parser) product() api.Node {
	return p.chain(p.unary, "*")
}

func (p *parser) unary() api.Node {
	if p.is("-") {
		return p.prefixed(p.unary)
	}
	return p.primary()
}

func (p *parser) primary() api.Node {
	switch {
	case p.kind() == api.TokenName:
		return p.identifier()
	case p.kind() == api.TokenNumber:
		return p.numeral()
	case p.accept("("):
		inner := p.expression()
		p.expect(")")
		return inner
	}
	p.miss(api.DiagExpression, "")
	return p.empty(api.NodeError)
}

// prefixed reads an operator and its only operand.
func (p *parser) prefixed(operand part) api.Node {
	start := p.next
	return p.node(start, api.NodeUnary, p.read(), operand())
}

// chain reads operands with any number of operators of one level between them.
func (p *parser) chain(operand part, words ...string) api.Node {
	return p.operators(len(p.tokens), operand, words...)
}

// operators reads operands with at most so many operators of one level between them.
// Each node begins in front of the first operand, with the parenthesis that may stand there.
func (p *parser) operators(most int, operand part, words ...string) api.Node {
	start := p.next
	tree := operand()
	for ; most > 0 && p.is(words...); most-- {
		tree = p.node(start, api.NodeBinary, p.read(), tree, operand())
	}
	return tree
}

func beginsStatement(word string) bool {
	return slices.Contains([]string{"require", "hold", "insert", "delete", "add", "put", "drop", "assign", "for"}, word)
}
