package block_test

import (
	"fmt"
	"slices"
	"testing"

	"confluent/api"
	"confluent/block"
	"confluent/checker"
)

const text = "sort s 2; sort t 3; counter c() in 0..9; operation before() { } operation o(p: t, n in 5..6) { add 1 to c(); for x: s where x != 0 or n == 6 { add 2 to c(); for y: t where y == p { require n == 5; } add 3 to c(); } for z: s where 1 == 2 { add 4 to c(); } add 5 to c(); }"

func compile(t *testing.T) api.Program {
	t.Helper()
	p, wrong, e := checker.Check(text)
	if e != api.OK || len(wrong) > 0 {
		t.Fatal(wrong, e)
	}
	return p
}

// reached returns the number that each statement adds (0 for a require) with the variables that it sees.
func reached(p api.Program, arguments ...int) []string {
	var all []string
	for s, variables := range block.Statements(p, 1, arguments) {
		word := "0"
		if s.Kind == api.NodeAdd {
			word = s.Kids[0].Text
		}
		for _, v := range variables {
			word += fmt.Sprintf(" %s%d%d", v.Name, v.Value, v.Sort)
		}
		all = append(all, word)
	}
	return all
}

func TestP10_2AndP11_1Statements(t *testing.T) {
	p := compile(t)
	if got, want := reached(p, 2, 5), []string{"1 p21 n5-1", "2 p21 n5-1 x10", "0 p21 n5-1 x10 y21", "3 p21 n5-1 x10", "5 p21 n5-1"}; !slices.Equal(got, want) {
		t.Errorf("%q", got)
	}
	if got, want := reached(p, 0, 6), []string{"1 p01 n6-1", "2 p01 n6-1 x00", "0 p01 n6-1 x00 y01", "3 p01 n6-1 x00", "2 p01 n6-1 x10", "0 p01 n6-1 x10 y01", "3 p01 n6-1 x10", "5 p01 n6-1"}; !slices.Equal(got, want) {
		t.Errorf("%q", got)
	}
	for range block.Statements(p, 0, nil) {
		t.Error("an operation without statements has one")
	}
}

func TestP10_2AndP11_1Break(t *testing.T) {
	p := compile(t)
	for limit := 1; limit <= 8; limit++ {
		count := 0
		for range block.Statements(p, 1, []int{0, 6}) {
			count++
			if count == limit {
				break
			}
		}
		if count != limit {
			t.Errorf("%d statements, not %d", count, limit)
		}
	}
}
