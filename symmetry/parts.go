package symmetry

import (
	"slices"
	"sort"

	"confluent/api"
)

func (x *exchange) row(r api.Row) api.Row {
	return api.Row{Terms: parts(r.Terms, x.strict, func(t *api.Term) *int { return &t.Cell }), Bound: r.Bound}
}

func (x *exchange) delta(delta []api.Change) []api.Change {
	return parts(delta, x.strict, func(c *api.Change) *int { return &c.Cell })
}

func (x *exchange) updates(updates []api.Update) []api.Update {
	return parts(updates, x.merged, func(u *api.Update) *int { return &u.Cell })
}

// parts returns the parts of something with what their cells become, by increasing cell. The function finds the cell of a part.
func parts[T any](l []T, become []int, cell func(*T) *int) []T {
	changed := slices.Clone(l)
	for i := range changed {
		at := cell(&changed[i])
		*at = become[*at]
	}
	sort.Slice(changed, func(i, k int) bool { return *cell(&changed[i]) < *cell(&changed[k]) })
	return changed
}

// increase reports whether the cells of terms are below a count, and increase strictly.
func increase(terms []api.Term, count int) bool {
	last := -1
	for _, t := range terms {
		if t.Cell <= last || t.Cell >= count {
			return false
		}
		last = t.Cell
	}
	return true
}
