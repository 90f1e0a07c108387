package syntax

import (
	"slices"
	"strings"

	"confluent/api"
	"confluent/lexer"
)

// shape reports whether a node, with all of its nodes, is as the table of the chapter says.
type shape func(n api.Node) bool

// shapes are the shapes of nodes by their kinds. NodeWord and NodeBound are not among them: what they are depends on the node above.
type shapes map[int]shape

func newShapes() shapes {
	s := shapes{}
	s.addDeclarations()
	s.addInvariants()
	s.addParts()
	s.addStatements()
	s.addExpressions()
	return s
}

// newExpressionShapes returns the shapes of expressions alone: these are asked for often.
func newExpressionShapes() shapes {
	s := shapes{}
	s.addExpressions()
	return s
}

func (s shapes) addDeclarations() {
	columns := s.of(api.NodeColumns)
	values := s.of(api.NodeRange)
	none := s.of(api.NodeNone)
	declaration := s.of(api.NodeSort, api.NodeRelation, api.NodeCounter, api.NodeSet, api.NodeRegister, api.NodeInvariant, api.NodeOperation)
	invariant := s.of(api.NodeKey, api.NodeReference, api.NodeCount, api.NodeAcyclic, api.NodeLinear)
	s[api.NodeNone] = parts(oneOf(""))
	s[api.NodeProgram] = many(oneOf(""), 0, declaration)
	s[api.NodeSort] = parts(lexer.Name, s.of(api.NodeNumber))
	s[api.NodeRelation] = parts(lexer.Name, columns)
	s[api.NodeCounter] = parts(lexer.Name, columns, values)
	s[api.NodeSet] = parts(lexer.Name, columns, word("addwins", "removewins"))
	s[api.NodeRegister] = parts(lexer.Name, columns, values, word("last", "multi"))
	s[api.NodeInvariant] = parts(lexer.Name, invariant)
	s[api.NodeOperation] = parts(lexer.Name, s.of(api.NodeParameters), either(none, word("ordered")), s.of(api.NodeBlock))
}

func (s shapes) addInvariants() {
	name := s.of(api.NodeName)
	names := s.of(api.NodeNames)
	limit := bound(s.of(api.NodeInteger))
	s[api.NodeKey] = parts(lexer.Name, names)
	s[api.NodeReference] = parts(lexer.Name, name, name, either(s.of(api.NodeNone), word("hide")))
	s[api.NodeCount] = parts(lexer.Name, names, limit)
	s[api.NodeAcyclic] = parts(lexer.Name)
	s[api.NodeLinear] = parts(oneOf(""), s.of(api.NodeColumns), s.of(api.NodeTotal), limit)
}

// addParts adds what declarations, invariants and statements consist of.
func (s shapes) addParts() {
	name := s.of(api.NodeName)
	integer := s.of(api.NodeInteger)
	s[api.NodeColumns] = many(oneOf(""), 0, s.of(api.NodeColumn))
	s[api.NodeColumn] = parts(lexer.Name, name)
	s[api.NodeRange] = parts(oneOf(""), integer, integer)
	s[api.NodeNames] = many(oneOf(""), 0, name)
	s[api.NodeTotal] = many(oneOf(""), 1, s.of(api.NodeTerm))
	s[api.NodeTerm] = parts(oneOf("+", "-"), s.of(api.NodeNone, api.NodeNumber), s.of(api.NodeNone, api.NodeColumns), s.of(api.NodeCell))
	s[api.NodeCell] = many(lexer.Name, 0, s.of(api.NodeName, api.NodeNumber))
	s[api.NodeParameters] = many(oneOf(""), 0, s.of(api.NodeParameter))
	s[api.NodeParameter] = parts(lexer.Name, s.of(api.NodeName, api.NodeRange))
}

func (s shapes) addStatements() {
	cell := s.of(api.NodeCell)
	block := s.of(api.NodeBlock)
	statement := s.of(api.NodeRequire, api.NodeHold, api.NodeInsert, api.NodeDelete, api.NodeAdd, api.NodePut, api.NodeDrop, api.NodeAssign, api.NodeFor)
	s[api.NodeBlock] = many(oneOf(""), 0, statement)
	s[api.NodeRequire] = parts(oneOf(""), s.expression())
	s[api.NodeHold] = parts(oneOf(""), s.of(api.NodeTotal), bound(s.expression()))
	for _, kind := range []int{api.NodeInsert, api.NodeDelete, api.NodePut, api.NodeDrop} {
		s[kind] = parts(oneOf(""), cell)
	}
	s[api.NodeAdd] = parts(oneOf(""), s.expression(), cell)
	s[api.NodeAssign] = parts(oneOf(""), cell, s.expression())
	s[api.NodeFor] = parts(oneOf(""), s.of(api.NodeColumn), either(s.of(api.NodeNone), s.expression()), block)
}

func (s shapes) addExpressions() {
	operator := oneOf("or", "and", "==", "!=", "<", "<=", ">", ">=", "+", "-", "*")
	s[api.NodeName] = parts(lexer.Name)
	s[api.NodeNumber] = parts(isNumber)
	s[api.NodeInteger] = parts(isInteger)
	s[api.NodeUnary] = parts(oneOf("-", "not"), s.expression())
	s[api.NodeBinary] = parts(operator, s.expression(), s.expression())
}

// expression returns the shape of expressions.
func (s shapes) expression() shape {
	return s.of(api.NodeName, api.NodeNumber, api.NodeUnary, api.NodeBinary)
}

// of returns the shape of nodes of some kinds. It can be asked for before the shapes of these kinds are there.
func (s shapes) of(kinds ...int) shape {
	return func(n api.Node) bool {
		return slices.Contains(kinds, n.Kind) && s[n.Kind](n)
	}
}

// either returns the shape of nodes that have one of two shapes.
func either(a, b shape) shape {
	return func(n api.Node) bool { return a(n) || b(n) }
}

// word returns the shape of a NodeWord with one of some texts.
func word(texts ...string) shape {
	own := parts(oneOf(texts...))
	return func(n api.Node) bool { return n.Kind == api.NodeWord && own(n) }
}

// bound returns the shape of a NodeBound with a Kid of some shape.
func bound(value shape) shape {
	own := parts(oneOf("<=", ">="), value)
	return func(n api.Node) bool { return n.Kind == api.NodeBound && own(n) }
}

// parts returns the shape of nodes of any kind with a certain text and exactly one Kid for each of some shapes.
func parts(text func(text string) bool, kids ...shape) shape {
	return func(n api.Node) bool {
		if !text(n.Text) || len(n.Kids) != len(kids) {
			return false
		}
		for i, kid := range kids {
			if !kid(n.Kids[i]) {
				return false
			}
		}
		return true
	}
}

// many returns the shape of nodes of any kind with a certain text and a least number of Kids, all of one shape.
func many(text func(text string) bool, least int, kid shape) shape {
	return func(n api.Node) bool {
		if !text(n.Text) || len(n.Kids) < least {
			return false
		}
		for _, other := range n.Kids {
			if !kid(other) {
				return false
			}
		}
		return true
	}
}

func oneOf(texts ...string) func(text string) bool {
	return func(text string) bool { return slices.Contains(texts, text) }
}

// isNumber reports whether a text is a valid number without leading zeros.
func isNumber(text string) bool {
	_, valid := lexer.Number(text)
	return valid && (text == "0" || text[0] != '0')
}

func isInteger(text string) bool {
	if digits, negative := strings.CutPrefix(text, "-"); negative {
		return digits != "0" && isNumber(digits)
	}
	return isNumber(text)
}
