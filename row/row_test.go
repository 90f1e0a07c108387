package row_test

import (
	"slices"
	"testing"

	"confluent/api"
	"confluent/row"
)

func TestP11_1AndP12_1Bounded(t *testing.T) {
	terms := []api.Term{{Cell: 3, Factor: 2}, {Cell: 7, Factor: -1}}
	most := row.Bounded(terms, "<=", 5)
	if most.Bound != 5 || !slices.Equal(most.Terms, terms) {
		t.Error(most)
	}
	least := row.Bounded(terms, ">=", 5)
	if least.Bound != -5 || !slices.Equal(least.Terms, []api.Term{{Cell: 3, Factor: -2}, {Cell: 7, Factor: 1}}) {
		t.Error(least)
	}
	most.Terms[0].Factor = 77
	if terms[0].Factor != 2 {
		t.Error("the row shares memory with the terms")
	}
	if empty := row.Bounded(nil, ">=", -9); empty.Bound != 9 || len(empty.Terms) > 0 {
		t.Error(empty)
	}
}
