package execution_test

import (
	"slices"
	"testing"

	"confluent/api"
	"confluent/checker"
	"confluent/constraint"
	"confluent/execution"
)

func TestP15_4Chapter(t *testing.T) {
	m := of(t, chapter)
	for i, c := range []struct {
		action int
		r      api.Refusal
		want   string
	}{
		{0, refused(api.RefusalNone, 0), "executed"}, {2, refused(api.RefusalNone, 0), "executed"}, {2, refused(api.RefusalHold, 0), "needs -r(0) <= -1"},
		{0, refused(api.RefusalConstraint, 4), "violates i: r(0) + r(1) <= 1"}, {2, refused(api.RefusalConstraint, 0), "violates r: -r(0) <= 0"}, {0, refused(api.RefusalConstraint, 3), "violates r: r(1) <= 1"},
		{0, refused(api.RefusalNone, 1), ""}, {0, refused(api.RefusalNone, -1), ""}, {0, refused(api.RefusalHold, 0), ""}, {2, refused(api.RefusalHold, 1), ""}, {2, refused(api.RefusalHold, -1), ""},
		{2, refused(api.RefusalConstraint, 5), ""}, {2, refused(api.RefusalConstraint, -1), ""}, {2, refused(3, 0), ""}, {2, refused(-1, 0), ""}, {2, refused(1<<62, 0), ""},
	} {
		if got := execution.Words(m, m.Actions[c.action].Effect, c.r); got != c.want {
			t.Errorf("%d: %q, not %q", i, got, c.want)
		}
	}
	for i, m := range broken(t) {
		for _, r := range []api.Refusal{{}, refused(api.RefusalHold, 0), refused(api.RefusalConstraint, 0)} {
			if got := execution.Words(m, hold(row(0)), r); got != "" {
				t.Errorf("%d: %q", i, got)
			}
		}
	}
}

func TestP15_4Hold(t *testing.T) {
	m := of(t, wide)
	const most = api.MaxBound
	for want, r := range map[string]api.Row{
		"needs 0 <= 0": row(0), "needs 0 <= -9223372036854775808": row(-1 << 63), "needs r(0, 0) <= 9223372036854775807": row(1<<63-1, 0, 1),
		"needs -2 * r(1, 2) + c(0) - 3 * e(2, 2) - k() <= 5":        row(5, 5, -2, 6, 1, 16, -3, 17, -1),
		"needs 1000000000 * k() - 1000000000 * c(1) + 0 * k() <= 1": row(1, 17, most, 7, -most, 17, 0),
	} {
		if got := execution.Words(m, hold(row(-1), r), refused(api.RefusalHold, 1)); got != want {
			t.Errorf("%q, not %q", got, want)
		}
		// Other rows, and changes, of the effect do not matter.
		x := hold(row(0, -1, 1), r, row(0, 0, most+1))
		x.Delta = delta(-1, 1)
		if got := execution.Words(m, x, refused(api.RefusalHold, 1)); got != want {
			t.Errorf("%q, not %q", got, want)
		}
	}
	for i, r := range []api.Row{row(0, -1, 1), row(0, 18, 1), row(0, 0, 1, 1<<62, 1), row(0, 0, most+1), row(0, 0, -most-1), row(0, 0, 1, 1, -1<<63)} {
		if got := execution.Words(m, hold(row(0), r), refused(api.RefusalHold, 1)); got != "" {
			t.Errorf("%d: %q", i, got)
		}
	}
	if got := execution.Words(api.Model{}, hold(row(3)), refused(api.RefusalHold, 0)); got != "needs 0 <= 3" {
		t.Error(got)
	}
}

// The words of constraints are those of layer 12 behind the name of the family.
func TestP15_4Constraints(t *testing.T) {
	m := of(t, wide)
	p, _, _ := checker.Check(wide)
	for i, c := range m.Constraints {
		want := "violates " + m.Families[c.Family] + ": " + constraint.Words(p, c)
		if got := execution.Words(m, api.Effect{}, refused(api.RefusalConstraint, i)); got != want {
			t.Errorf("%q, not %q", got, want)
		}
	}
	for i, want := range map[int]string{0: "violates r: -r(0, 0) <= 0", 37: "violates few: r(1, 0) + r(1, 1) + r(1, 2) <= 2", 38: "violates order: acyclic e", 39: "violates room: c(0) + 2 * k() <= 8", 34: "violates k: -k() <= -1"} {
		if got := execution.Words(m, api.Effect{}, refused(api.RefusalConstraint, i)); got != want {
			t.Errorf("%q, not %q", got, want)
		}
	}
	// A model that is typed by hand can have other families, and rows of all kinds.
	m.Families = []string{"one", "two"}
	for i := range m.Constraints {
		m.Constraints[i].Family = 1
	}
	m.Constraints = append(slices.Clone(m.Constraints), api.Constraint{Row: row(-7)}, api.Constraint{Row: row(9, 0, -1000, 17, 1000)})
	for i, want := range map[int]string{0: "violates two: -r(0, 0) <= 0", 38: "violates two: acyclic e", 41: "violates one: 0 <= -7", 42: "violates one: -1000 * r(0, 0) + 1000 * k() <= 9", 43: ""} {
		if got := execution.Words(m, api.Effect{}, refused(api.RefusalConstraint, i)); got != want {
			t.Errorf("%q, not %q", got, want)
		}
	}
}
