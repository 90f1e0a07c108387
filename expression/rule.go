package expression

import (
	"slices"

	"confluent/api"
)

// rule returns the type and the interval of a node with an operator. It panics if the node has none.
type rule func(own finding, operands []finding) (int, api.Range)

// rules returns the rules of the operators by their Texts.
func rules(sorts []api.Sort) map[string]rule {
	logic := demand(api.TypeBool)
	order := demand(api.TypeInt)
	same := equality(sorts)
	all := map[string]rule{
		"or": logic, "and": logic, "not": logic,
		"<": order, "<=": order, ">": order, ">=": order,
		"==": same, "!=": same,
	}
	of := operators()
	for _, text := range []string{"+", "-", "*"} {
		all[text] = arithmetic(of[text])
	}
	return all
}

// demand returns the rule of a bool whose operands must all have one type.
func demand(kind int) rule {
	return func(_ finding, operands []finding) (int, api.Range) {
		mustBe(kind, operands)
		return api.TypeBool, api.Range{}
	}
}

// mustBe ends the work on a node if an operand has not the type that it must have.
func mustBe(kind int, operands []finding) {
	var wrong mistakes
	for _, o := range operands {
		if o.kind != kind && o.kind != api.TypeNone {
			wrong = append(wrong, o.mistake(api.DiagType))
		}
	}
	if len(wrong) > 0 {
		panic(wrong)
	}
	mustBeClean(operands)
}

// mustBeClean ends the work on a node if something is wrong in an operand, which is not reported again.
func mustBeClean(operands []finding) {
	if slices.ContainsFunc(operands, func(o finding) bool { return o.kind == api.TypeNone }) {
		panic(mistakes{})
	}
}

// equality returns the rule of == and !=.
func equality(sorts []api.Sort) rule {
	return func(own finding, operands []finding) (int, api.Range) {
		mustBeClean(operands)
		if code := unequal(operands[0], operands[1], sorts); code != 0 {
			panic(mistakes{own.mistake(code)})
		}
		return api.TypeBool, api.Range{}
	}
}

// unequal returns the code of what is wrong with a comparison of two operands, or 0.
func unequal(a, b finding, sorts []api.Sort) int {
	if a.kind < 0 {
		a, b = b, a
	}
	switch {
	case a.kind == b.kind && a.kind != api.TypeBool:
		return 0
	case a.kind >= 0 && b.kind >= 0:
		return api.DiagSort
	case a.kind >= 0 && b.node.Kind == api.NodeNumber:
		if number(b.node) < sorts[a.kind].Size {
			return 0
		}
		return api.DiagSize
	}
	return api.DiagType
}

// arithmetic returns the rule of an operator whose operands and result are ints.
func arithmetic(of operator) rule {
	return func(own finding, operands []finding) (int, api.Range) {
		mustBe(api.TypeInt, operands)
		interval := bounds(of, operands)
		if interval.Lo < -api.MaxValue || interval.Hi > api.MaxValue {
			panic(mistakes{own.mistake(api.DiagValue)})
		}
		return api.TypeInt, interval
	}
}

// bounds returns the interval from the least to the greatest result for the bounds of the operands.
func bounds(of operator, operands []finding) api.Range {
	var results []int
	for _, a := range ends(operands[0]) {
		if len(operands) == 1 {
			results = append(results, of(a))
			continue
		}
		for _, b := range ends(operands[1]) {
			results = append(results, of(a, b))
		}
	}
	return api.Range{Lo: slices.Min(results), Hi: slices.Max(results)}
}

func ends(o finding) []int { return []int{o.interval.Lo, o.interval.Hi} }
