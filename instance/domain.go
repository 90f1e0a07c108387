package instance

import (
	"iter"
	"slices"

	"confluent/api"
)

func exists(p api.Program, procedure int) bool {
	return 0 <= procedure && procedure < len(p.Procedures)
}

// domain returns an iterator over the arguments of an operation, in lexicographic order.
func domain(p api.Program, procedure int) iter.Seq[[]int] {
	parameters := p.Procedures[procedure].Parameters
	return func(yield func([]int) bool) {
		var extend func(arguments []int) bool
		extend = func(arguments []int) bool {
			if len(arguments) == len(parameters) {
				return yield(slices.Clone(arguments))
			}
			r := values(p, parameters[len(arguments)])
			for value := r.Lo; value <= r.Hi; value++ {
				if !extend(append(arguments, value)) {
					return false
				}
			}
			return true
		}
		extend(nil)
	}
}

// contains reports whether a list is in the domain of an operation.
func contains(p api.Program, procedure int, arguments []int) bool {
	parameters := p.Procedures[procedure].Parameters
	if len(arguments) != len(parameters) {
		return false
	}
	for i, value := range arguments {
		if r := values(p, parameters[i]); value < r.Lo || value > r.Hi {
			return false
		}
	}
	return true
}

// values returns the values that a parameter can have.
func values(p api.Program, parameter api.Parameter) api.Range {
	if parameter.Sort == api.TypeInt {
		return parameter.Range
	}
	return elements(p.Sorts[parameter.Sort])
}

func elements(s api.Sort) api.Range { return api.Range{Lo: 0, Hi: s.Size - 1} }
