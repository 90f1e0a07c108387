package expression

import (
	"confluent/api"
	"confluent/lexer"
)

// operator returns its result for the values of one operand or two.
type operator func(operands ...int) int

// operators returns the operators by their Texts.
func operators() map[string]operator {
	return map[string]operator{
		"or":  func(l ...int) int { return max(l[0], l[1]) },
		"and": func(l ...int) int { return min(l[0], l[1]) },
		"not": func(l ...int) int { return 1 - l[0] },
		"==":  func(l ...int) int { return truth(l[0] == l[1]) },
		"!=":  func(l ...int) int { return truth(l[0] != l[1]) },
		"<":   func(l ...int) int { return truth(l[0] < l[1]) },
		"<=":  func(l ...int) int { return truth(l[0] <= l[1]) },
		">":   func(l ...int) int { return truth(l[0] > l[1]) },
		">=":  func(l ...int) int { return truth(l[0] >= l[1]) },
		"+":   func(l ...int) int { return l[0] + l[1] },
		"-":   minus,
		"*":   func(l ...int) int { return l[0] * l[1] },
	}
}

func minus(operands ...int) int {
	if len(operands) == 1 {
		return -operands[0]
	}
	return operands[0] - operands[1]
}

func truth(b bool) int {
	if b {
		return 1
	}
	return 0
}

// evaluator computes the values of expressions in which nothing is wrong.
type evaluator struct {
	variables map[string]api.Variable
	operators map[string]operator
}

func (e evaluator) value(n api.Node) int {
	switch n.Kind {
	case api.NodeNumber:
		return number(n)
	case api.NodeName:
		return e.variables[n.Text].Value
	}
	var operands []int
	for _, kid := range n.Kids {
		operands = append(operands, e.value(kid))
	}
	return e.operators[n.Text](operands...)
}

// number returns the number that a NodeNumber stands for.
func number(n api.Node) int {
	value, _ := lexer.Number(n.Text)
	return value
}
