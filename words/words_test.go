package words_test

import (
	"strconv"
	"testing"

	"confluent/api"
	"confluent/words"
)

// cell writes the cells from 0 to 9.
func cell(cell int) string {
	if cell < 0 || cell > 9 {
		return ""
	}
	return "x" + strconv.Itoa(cell)
}

func row(bound int, pairs ...int) api.Row {
	r := api.Row{Bound: bound}
	for i := 0; i < len(pairs); i += 2 {
		r.Terms = append(r.Terms, api.Term{Cell: pairs[i], Factor: pairs[i+1]})
	}
	return r
}

func TestP12_4AndP15_4Rows(t *testing.T) {
	for i, c := range []struct {
		r    api.Row
		want string
	}{
		{row(0), "0 <= 0"}, {row(-12), "0 <= -12"}, {row(1, 0, 1), "x0 <= 1"}, {row(-5, 9, -1), "-x9 <= -5"}, {row(0, 8, 2), "2 * x8 <= 0"}, {row(0, 8, -2), "-2 * x8 <= 0"},
		{row(7, 5, 1, 6, -1, 7, 3, 2, -10, 3, 1), "x5 - x6 + 3 * x7 - 10 * x2 + x3 <= 7"}, {row(7, 5, -1, 6, 0), "-x5 + 0 * x6 <= 7"}, {row(7, 5, 11, 5, 0), "11 * x5 + 0 * x5 <= 7"},
		{row(1<<63-1, 0, -1<<63, 1, -1<<63, 2, 1<<63-1), "-9223372036854775808 * x0 - 9223372036854775808 * x1 + 9223372036854775807 * x2 <= 9223372036854775807"}, {row(-1 << 63), "0 <= -9223372036854775808"},
		{row(1, 10, 1), ""}, {row(1, -1, 1), ""}, {row(1, 0, 1, 10, 1), ""}, {row(1, 10, 1, 0, 1), ""},
	} {
		if got := words.Row(c.r, cell); got != c.want {
			t.Errorf("%d: %q, not %q", i, got, c.want)
		}
		if got := words.Constraint(nil, nil, api.Constraint{Row: c.r, First: 7, Size: 8}, cell); got != c.want {
			t.Errorf("%d: the constraint is %q, not %q", i, got, c.want)
		}
	}
}

func TestP12_4AndP15_4Graphs(t *testing.T) {
	sizes := []int{2, 3}
	tables := []api.Table{{Name: "r", Columns: []int{0, 0}}, {Name: "c", Kind: api.TableCounter, Columns: []int{0, 0}, First: 4}, {Name: "m", Kind: api.TableAddWins, Columns: []int{0, 0}}, {Name: "e", Columns: []int{1, 1}, First: 8}, {Name: "u", Columns: []int{1}, First: 17}}
	for i, c := range []struct {
		c    api.Constraint
		want string
	}{
		{api.Constraint{Kind: api.ConstraintAcyclic, First: 0, Size: 2}, "acyclic r"}, {api.Constraint{Kind: api.ConstraintAcyclic, First: 8, Size: 3}, "acyclic e"}, {api.Constraint{Kind: api.ConstraintAcyclic, First: 8, Size: 3, Row: row(0, 99, 1)}, "acyclic e"},
		{api.Constraint{Kind: api.ConstraintAcyclic, First: 0, Size: 3}, ""}, {api.Constraint{Kind: api.ConstraintAcyclic, First: 4, Size: 2}, ""}, {api.Constraint{Kind: api.ConstraintAcyclic, First: 8, Size: 2}, ""}, {api.Constraint{Kind: api.ConstraintAcyclic, First: 17, Size: 3}, ""}, {api.Constraint{Kind: api.ConstraintAcyclic, First: 9, Size: 3}, ""}, {api.Constraint{Kind: api.ConstraintAcyclic}, ""},
		{api.Constraint{Kind: 2, First: 8, Size: 3}, ""}, {api.Constraint{Kind: -1, First: 8, Size: 3}, ""},
	} {
		if got := words.Constraint(sizes, tables, c.c, cell); got != c.want {
			t.Errorf("%d: %q, not %q", i, got, c.want)
		}
	}
}
