package execution

import (
	"confluent/api"
	"confluent/model"
	"confluent/words"
)

// Words returns the words of a refusal, or the empty string if it is none that an effect can have.
func Words(m api.Model, x api.Effect, r api.Refusal) string {
	cell := func(cell int) string { return model.Cell(m, cell) }
	switch {
	case !model.Valid(m) || r.Index < 0:
		return ""
	case r.Kind == api.RefusalNone && r.Index == 0:
		return "executed"
	case r.Kind == api.RefusalHold && r.Index < len(x.Hold) && validRow(len(model.Strict(m)), x.Hold[r.Index]):
		return "needs " + words.Row(x.Hold[r.Index], cell)
	case r.Kind == api.RefusalConstraint && r.Index < len(m.Constraints):
		c := m.Constraints[r.Index]
		return "violates " + m.Families[c.Family] + ": " + words.Constraint(m.Sorts, m.Tables, c, cell)
	}
	return ""
}
