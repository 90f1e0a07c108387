package instance

import (
	"confluent/api"
	"confluent/block"
	"confluent/expression"
)

// enabled reports whether an instance of a checked program is enabled.
func enabled(p api.Program, procedure int, arguments []int) bool {
	for s, variables := range block.Statements(p, procedure, arguments) {
		if s.Kind != api.NodeRequire {
			continue
		}
		if value, _ := expression.Evaluate(s.Kids[0], variables, p.Sorts); value == 0 {
			return false
		}
	}
	return true
}
