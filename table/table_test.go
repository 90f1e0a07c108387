package table_test

import (
	"testing"

	"confluent/api"
	"confluent/table"
)

func TestP9_1AndP13_2Kinds(t *testing.T) {
	const none, strict, set, register = 0, 1, 2, 3
	for kind, want := range map[int]int{
		api.TableRelation: strict, api.TableCounter: strict, api.TableAddWins: set, api.TableRemoveWins: set, api.TableLastWriter: register, api.TableMultiValue: register,
		-1: none, 6: none, 1 << 62: none, -1 << 63: none,
	} {
		x := api.Table{Kind: kind}
		if table.Strict(x) != (want == strict) || table.Set(x) != (want == set) || table.Register(x) != (want == register) {
			t.Errorf("the kind %d: %v %v %v", kind, table.Strict(x), table.Set(x), table.Register(x))
		}
	}
}

func TestP12_4AndP13_2Square(t *testing.T) {
	for i, c := range []struct {
		kind    int
		columns []int
		want    bool
	}{
		{api.TableRelation, []int{0, 0}, true}, {api.TableRelation, []int{3, 3}, true}, {api.TableRelation, nil, false}, {api.TableRelation, []int{0}, false}, {api.TableRelation, []int{0, 1}, false}, {api.TableRelation, []int{0, 0, 0}, false},
		{api.TableCounter, []int{0, 0}, false}, {api.TableAddWins, []int{0, 0}, false}, {api.TableMultiValue, []int{0, 0}, false}, {-1, []int{0, 0}, false},
	} {
		if got := table.Square(api.Table{Kind: c.kind, Columns: c.columns}); got != c.want {
			t.Errorf("%d: %v", i, got)
		}
	}
}

func TestP12_4AndP13_2Graph(t *testing.T) {
	sizes := []int{2, 3}
	e := api.Table{Kind: api.TableRelation, Columns: []int{1, 1}, First: 8}
	for i, c := range []struct {
		first, size int
		columns     []int
		want        bool
	}{
		{8, 3, []int{1, 1}, true}, {8, 2, []int{0, 0}, true}, {8, 2, []int{1, 1}, false}, {7, 3, []int{1, 1}, false}, {9, 3, []int{1, 1}, false}, {8, 3, []int{0, 0}, false}, {8, 3, []int{1}, false}, {8, 3, []int{0, 1}, false}, {8, 3, nil, false},
	} {
		e.Columns = c.columns
		if got := table.Graph(e, sizes, api.Constraint{Kind: api.ConstraintAcyclic, First: c.first, Size: c.size}); got != c.want {
			t.Errorf("%d: %v", i, got)
		}
	}
}
