package model_test

import (
	"fmt"
	"reflect"
	"strings"
	"testing"

	"confluent/api"
	"confluent/model"
)

func table(name string, kind, first, lo, hi int, columns ...int) api.Table {
	return api.Table{Name: name, Kind: kind, First: first, Range: api.Range{Lo: lo, Hi: hi}, Columns: columns}
}

// The places of the tables, and of the constraints behind those of the ranges, of a model that is typed by hand.
const (
	tableR = iota
	tableM
	tableU
	tableG
	tableC
	tableE
	tableV
	tableN
	tableH
	tableF
	rows = 2 * 20
)

// hand returns a valid model with everything that a model can have, typed by hand. Its strict cells are r 0 to 5, u 6 and 7, c 8 and 9, e 10 to 13, v 14 and 15, f 16 to 19; the convergent ones m 0 to 2, g 3, n 4, h 5 and 6.
func hand() api.Model {
	m := api.Model{
		Sorts: []int{2, 3},
		Tables: []api.Table{
			table("r", api.TableRelation, 0, 0, 1, 0, 1), table("m", api.TableAddWins, 0, 0, 1, 1), table("u", api.TableRelation, 6, 0, 1, 0), table("g", api.TableLastWriter, 3, -3, 3),
			table("c", api.TableCounter, 8, -5, 9, 0), table("e", api.TableRelation, 10, 0, 1, 0, 0), table("v", api.TableRelation, 14, 0, 1, 0), table("n", api.TableRemoveWins, 4, 0, 1),
			table("h", api.TableMultiValue, 5, 4, 9, 0), table("f", api.TableCounter, 16, 0, 1, 0, 0),
		},
		Families:   []string{"all_strict", "few", "path"},
		Operations: []api.Operation{{Name: "o", Sorts: []int{1, -1}}, {Name: "k", Ordered: true}, {Name: "never", Sorts: []int{0, 0, 0}}, {Name: "last_one", Sorts: []int{-1}}},
		Actions: []api.Action{
			{Operation: 0, Arguments: []int{0, -7}, Effect: api.Effect{Delta: []api.Change{{Cell: 0, Add: 1}, {Cell: 9, Add: -5}}, Hold: []api.Row{row(3, 8, -2), row(0), row(3, 8, -2)}}},
			{Operation: 0, Arguments: []int{2, -9999}},
			{Operation: 0, Arguments: []int{2, 9999}, Effect: api.Effect{Updates: []api.Update{{Kind: api.UpdatePut, Cell: 0}, {Kind: api.UpdateDrop, Cell: 2}, {Kind: api.UpdateAssign, Cell: 3, Value: -3}, {Kind: api.UpdatePut, Cell: 4}, {Kind: api.UpdateAssign, Cell: 6, Value: 9}}}},
			{Operation: 1},
			{Operation: 3, Arguments: []int{0}},
		},
		Hides: []api.Hide{{Table: tableR, Column: 0, To: tableU}, {Table: tableU, Column: 0, To: tableV}},
	}
	for _, t := range m.Tables {
		if t.Kind > api.TableCounter {
			continue
		}
		count := map[int]int{0: 1, 1: 2, 2: 4}[len(t.Columns)]
		if t.Name == "r" {
			count = 6
		}
		for cell := t.First; cell < t.First+count; cell++ {
			m.Constraints = append(m.Constraints, api.Constraint{Row: row(-t.Range.Lo, cell, -1)}, api.Constraint{Row: row(t.Range.Hi, cell, 1)})
		}
	}
	m.Constraints = append(m.Constraints,
		api.Constraint{Family: 1, Row: row(-4, 0, 1000, 7, -1000, 19, 1)},
		api.Constraint{Kind: api.ConstraintAcyclic, Family: 2, First: 10, Size: 2},
		api.Constraint{Family: 1, Row: row(-api.MaxBound)})
	return m
}

// change is a change of the model that is typed by hand, and whether it is still valid.
type change struct {
	words string
	do    func(m *api.Model)
	want  bool
}

func check(t *testing.T, changes []change) {
	t.Helper()
	for _, c := range changes {
		m := hand()
		c.do(&m)
		if got := model.Valid(m); got != c.want {
			t.Errorf("%s: the model is valid: %v", c.words, got)
		}
	}
}

func TestP13_2Hand(t *testing.T) {
	if !model.Valid(hand()) || !model.Valid(api.Model{}) || !model.Valid(api.Model{Sorts: []int{1, 2, 3, 6}}) {
		t.Fatal("a model that is valid is not")
	}
}

func TestP13_2Layout(t *testing.T) {
	check(t, []change{
		{"no sorts", func(m *api.Model) { m.Sorts = nil }, false},
		{"another size", func(m *api.Model) { m.Sorts[0] = 3 }, false},
		{"a size of 0", func(m *api.Model) { m.Sorts = append(m.Sorts, 0) }, false},
		{"a further sort", func(m *api.Model) { m.Sorts = append(m.Sorts, 6, 1) }, true},
		{"five sorts", func(m *api.Model) { m.Sorts = append(m.Sorts, 6, 1, 1) }, false},
		{"two tables of one name", func(m *api.Model) { m.Tables[tableM].Name = "r" }, false},
		{"a name that is none", func(m *api.Model) { m.Tables[tableM].Name = "sort" }, false},
		{"another kind", func(m *api.Model) { m.Tables[tableM].Kind = 6 }, false},
		{"another first cell", func(m *api.Model) { m.Tables[tableF].First++ }, false},
		{"another range", func(m *api.Model) { m.Tables[tableM].Range.Hi = 2 }, false},
		{"a further convergent table", func(m *api.Model) { m.Tables = append(m.Tables, table("x", api.TableAddWins, 7, 0, 1, 0)) }, true},
		{"a further strict table without ranges", func(m *api.Model) { m.Tables = append(m.Tables, table("x", api.TableRelation, 20, 0, 1)) }, false},
	})
}

func TestP13_2Families(t *testing.T) {
	many := func(count int) func(m *api.Model) {
		return func(m *api.Model) {
			for i := len(m.Families); i < count; i++ {
				m.Families = append(m.Families, fmt.Sprint("x", i))
			}
		}
	}
	named := func(name string) func(m *api.Model) { return func(m *api.Model) { m.Families[1] = name } }
	check(t, []change{
		{"24 families", many(24), true}, {"25 families", many(25), false},
		{"a family with the name of a table", named("r"), true}, {"a family with the name of an operation", named("o"), true}, {"a name of 16 bytes", named(strings.Repeat("n", 16)), true},
		{"two equal names", named("path"), false}, {"a keyword", named("sum"), false}, {"an empty name", named(""), false}, {"a name of 17 bytes", named(strings.Repeat("n", 17)), false}, {"a capital letter", named("Few"), false}, {"a blank", named("few "), false},
		{"a family less", func(m *api.Model) { m.Families = m.Families[:2] }, false},
		{"a family without constraints", func(m *api.Model) { m.Constraints = m.Constraints[:rows] }, true},
		{"no families", func(m *api.Model) { m.Families = nil }, false},
	})
}

func TestP13_2Ranges(t *testing.T) {
	for i := range rows {
		check(t, []change{
			{fmt.Sprint("another bound at ", i), func(m *api.Model) { m.Constraints[i].Row.Bound++ }, false},
			{fmt.Sprint("another cell at ", i), func(m *api.Model) { m.Constraints[i].Row.Terms[0].Cell ^= 1 }, false},
			{fmt.Sprint("another factor at ", i), func(m *api.Model) { m.Constraints[i].Row.Terms[0].Factor *= 2 }, false},
			{fmt.Sprint("no term at ", i), func(m *api.Model) { m.Constraints[i].Row.Terms = nil }, false},
			{fmt.Sprint("another family at ", i), func(m *api.Model) { m.Constraints[i].Family = 2 }, true},
			{fmt.Sprint("no family at ", i), func(m *api.Model) { m.Constraints[i].Family = -1 }, false},
			{fmt.Sprint("a Size at ", i), func(m *api.Model) { m.Constraints[i].Size = 1 }, false},
			{fmt.Sprint("a First at ", i), func(m *api.Model) { m.Constraints[i].First = 1 }, false},
			{fmt.Sprint("a graph at ", i), func(m *api.Model) { m.Constraints[i] = m.Constraints[rows+1] }, false},
			{fmt.Sprint("the kind of graphs at ", i), func(m *api.Model) { m.Constraints[i].Kind = api.ConstraintAcyclic }, false},
			{fmt.Sprint("two terms at ", i), func(m *api.Model) {
				m.Constraints[i].Row = row(m.Constraints[i].Row.Bound, i/2, 2*(i%2)-1, 19, 1)
			}, false},
			{fmt.Sprint("only the constraints before ", i), func(m *api.Model) { m.Constraints = m.Constraints[:i] }, false},
			{fmt.Sprint("without ", i), func(m *api.Model) { m.Constraints = append(m.Constraints[:i], m.Constraints[i+1:]...) }, false},
		})
	}
	check(t, []change{
		{"only the ranges", func(m *api.Model) { m.Constraints = m.Constraints[:rows] }, true},
		{"no constraints", func(m *api.Model) { m.Constraints = nil }, false},
		{"a row in front", func(m *api.Model) { m.Constraints = append([]api.Constraint{{Row: row(5)}}, m.Constraints...) }, false},
		{"both rows of a cell in the other order", func(m *api.Model) {
			m.Constraints[0], m.Constraints[1] = m.Constraints[1], m.Constraints[0]
		}, false},
		{"the counter with another range", func(m *api.Model) { m.Tables[tableC].Range.Lo++ }, false},
		{"the counter with another range and its rows", func(m *api.Model) {
			m.Tables[tableC].Range = api.Range{Lo: -9999, Hi: 9999}
			for _, i := range []int{16, 17, 18, 19} {
				m.Constraints[i].Row.Bound = 9999
			}
		}, true},
	})
}

func TestP13_2Constraints(t *testing.T) {
	many := func(count int) func(m *api.Model) {
		return func(m *api.Model) {
			for len(m.Constraints) < count {
				m.Constraints = append(m.Constraints, m.Constraints[0])
			}
		}
	}
	graph := func(first, size int) func(m *api.Model) {
		return func(m *api.Model) { m.Constraints[rows+1].First, m.Constraints[rows+1].Size = first, size }
	}
	kind := func(kind int) func(m *api.Model) {
		return func(m *api.Model) { m.Constraints[rows+2] = api.Constraint{Kind: kind} }
	}
	check(t, []change{
		{"512 constraints", many(512), true}, {"513 constraints", many(513), false},
		{"the greatest family", func(m *api.Model) { m.Constraints[rows].Family = 2 }, true}, {"a greater family", func(m *api.Model) { m.Constraints[rows].Family = 3 }, false}, {"a negative family", func(m *api.Model) { m.Constraints[rows+1].Family = -1 }, false},
		{"another kind", kind(2), false}, {"a negative kind", kind(-1), false}, {"an empty graph", kind(api.ConstraintAcyclic), false}, {"an empty row", kind(api.ConstraintRow), true},
		{"a row with a Size", func(m *api.Model) { m.Constraints[rows].Size = 2 }, false}, {"a row with a First", func(m *api.Model) { m.Constraints[rows].First = 10 }, false}, {"a row with those of a graph", func(m *api.Model) { m.Constraints[rows].First, m.Constraints[rows].Size = 10, 2 }, false},
		{"a graph with a bound", func(m *api.Model) { m.Constraints[rows+1].Row.Bound = 1 }, false}, {"a graph with a term", func(m *api.Model) { m.Constraints[rows+1].Row = row(0, 10, 1) }, false}, {"a graph with an empty list", func(m *api.Model) { m.Constraints[rows+1].Row.Terms = []api.Term{} }, true},
		{"a greater graph", graph(10, 3), false}, {"a lesser graph", graph(10, 1), false}, {"a later graph", graph(11, 2), false}, {"an earlier graph", graph(9, 2), false},
		{"a relation with one column", graph(6, 2), false}, {"a relation with columns of two sorts", graph(0, 2), false}, {"its second column", graph(0, 3), false}, {"a counter with two columns", graph(16, 2), false}, {"no cell", graph(20, 2), false}, {"a negative cell", graph(-1, 2), false}, {"no size", graph(10, 0), false}, {"the first convergent cell", graph(0, 1), false},
		{"two graphs of one relation", func(m *api.Model) { m.Constraints[rows] = m.Constraints[rows+1] }, true},
	})
	for columns, want := range map[int]bool{1: false, 2: true, 3: false} {
		m := api.Model{Sorts: []int{1}, Tables: []api.Table{table("e", api.TableRelation, 0, 0, 1, make([]int, columns)...)}, Families: []string{"e"},
			Constraints: []api.Constraint{{Row: row(0, 0, -1)}, {Row: row(1, 0, 1)}, {Kind: api.ConstraintAcyclic, Size: 1}}}
		if got := model.Valid(m); got != want {
			t.Errorf("a graph of a relation with %d columns is valid: %v", columns, got)
		}
	}
	set := api.Model{Sorts: []int{2}, Tables: []api.Table{table("e", api.TableAddWins, 0, 0, 1, 0, 0)}, Families: []string{"e"}, Constraints: []api.Constraint{{Kind: api.ConstraintAcyclic, Size: 2}}}
	if model.Valid(set) {
		t.Error("a set has a graph")
	}
}

// rowChanges are changes of a row; put puts it somewhere into a model.
func rowChanges(put func(m *api.Model, r api.Row)) []change {
	with := func(r api.Row) func(m *api.Model) { return func(m *api.Model) { put(m, r) } }
	var everywhere []int
	for cell := range 20 {
		everywhere = append(everywhere, cell, 1-2*(cell%2))
	}
	return []change{
		{"no terms", with(row(0)), true}, {"the last cell", with(row(0, 19, 1)), true}, {"a further cell", with(row(0, 20, 1)), false}, {"a negative cell", with(row(0, -1, 1)), false}, {"a large cell", with(row(0, 1<<62, 1)), false}, {"a small cell", with(row(0, -1<<63, 1)), false},
		{"all cells", with(row(0, everywhere...)), true}, {"all cells and one again", with(row(0, append(everywhere, 0, 1)...)), false}, {"two equal cells", with(row(0, 3, 1, 3, 1)), false}, {"two equal cells later", with(row(0, 3, 1, 4, 1, 4, 1)), false}, {"decreasing cells", with(row(0, 4, 1, 3, 1)), false}, {"decreasing cells later", with(row(0, 3, 1, 5, 1, 4, 1)), false},
		{"the greatest factor", with(row(0, 3, 1000)), true}, {"the least factor", with(row(0, 3, -1000)), true}, {"a greater factor", with(row(0, 3, 1001)), false}, {"a lesser factor", with(row(0, 3, -1001)), false}, {"a factor 0", with(row(0, 3, 0)), false}, {"a factor 0 behind others", with(row(0, 3, 1, 4, 0)), false}, {"the least int as factor", with(row(0, 3, -1<<63)), false},
		{"the greatest bound", with(row(1000000000, 3, 1)), true}, {"the least bound", with(row(-1000000000, 3, 1)), true}, {"a greater bound", with(row(1000000001, 3, 1)), false}, {"a lesser bound", with(row(-1000000001)), false}, {"the least int as bound", with(row(-1<<63, 3, 1)), false}, {"the greatest int as bound", with(row(1<<63-1, 3, 1)), false},
	}
}

func TestP13_2Rows(t *testing.T) {
	for _, i := range []int{rows, rows + 2} {
		check(t, rowChanges(func(m *api.Model, r api.Row) { m.Constraints[i].Row = r }))
	}
	for _, i := range []int{0, 1, 4} {
		check(t, rowChanges(func(m *api.Model, r api.Row) { m.Actions[i].Effect.Hold = []api.Row{r} }))
		check(t, rowChanges(func(m *api.Model, r api.Row) { m.Actions[i].Effect.Hold = []api.Row{row(0, 19, 1), row(3), r} }))
	}
}

func TestP13_2Operations(t *testing.T) {
	many := func(count int) func(m *api.Model) {
		return func(m *api.Model) {
			for i := len(m.Operations); i < count; i++ {
				m.Operations = append(m.Operations, api.Operation{Name: fmt.Sprint("x", i)})
			}
		}
	}
	named := func(name string) func(m *api.Model) { return func(m *api.Model) { m.Operations[2].Name = name } }
	sorts := func(sorts ...int) func(m *api.Model) { return func(m *api.Model) { m.Operations[2].Sorts = sorts } }
	check(t, []change{
		{"8 operations", many(8), true}, {"9 operations", many(9), false},
		{"the name of a table", named("r"), true}, {"the name of a family", named("few"), true}, {"a name of 16 bytes", named(strings.Repeat("n", 16)), true},
		{"two equal names", named("k"), false}, {"a keyword", named("add"), false}, {"an empty name", named(""), false}, {"a name of 17 bytes", named(strings.Repeat("n", 17)), false}, {"parentheses", named("o()"), false},
		{"no parameters", sorts(), true}, {"ints", sorts(-1, -1, -1), true}, {"the last sort", sorts(1, -1), true}, {"four parameters", sorts(0, 0, 0, 0), false}, {"a further sort", sorts(2), false}, {"a further sort behind others", sorts(0, -1, 2), false}, {"a bool", sorts(-2), false}, {"a large sort", sorts(1 << 62), false}, {"the least int", sorts(-1 << 63), false},
		{"an operation that is not ordered", func(m *api.Model) { m.Operations[1].Ordered = false }, true},
		{"an operation less", func(m *api.Model) { m.Operations = m.Operations[:3] }, false},
		{"an operation and its actions less", func(m *api.Model) { m.Operations, m.Actions = m.Operations[:3], m.Actions[:4] }, true},
		{"no actions", func(m *api.Model) { m.Actions = nil }, true},
		{"no operations", func(m *api.Model) { m.Operations, m.Actions = nil, nil }, true},
	})
}

func TestP13_2Actions(t *testing.T) {
	many := func(count int) func(m *api.Model) {
		return func(m *api.Model) {
			for i := len(m.Actions); i < count; i++ {
				m.Actions = append(m.Actions, api.Action{Operation: 3, Arguments: []int{i}})
			}
		}
	}
	with := func(i, operation int, arguments ...int) func(m *api.Model) {
		return func(m *api.Model) { m.Actions[i].Operation, m.Actions[i].Arguments = operation, arguments }
	}
	check(t, []change{
		{"256 actions", many(256), true}, {"257 actions", many(257), false},
		{"a further operation", with(4, 4, 0), false}, {"a negative operation", with(0, -1, 0, -7), false}, {"a large operation", with(4, 1<<62, 0), false},
		{"an argument less", with(0, 0, 0), false}, {"an argument more", with(4, 3, 0, 0), false}, {"an argument for nothing", with(3, 1, 0), false}, {"no argument", with(4, 3), false},
		{"the greatest element", with(0, 0, 1, -7), true}, {"a further element", with(2, 0, 3, 0), false}, {"a negative element", with(0, 0, -1, -7), false}, {"an element of another sort", with(4, 2, 0, 1, 2), false}, {"elements of its sort", with(4, 2, 0, 1, 1), true},
		{"the least number", with(0, 0, 0, -9999), true}, {"a lesser number", with(0, 0, 0, -10000), false}, {"the greatest number", with(4, 3, 9999), true}, {"a greater number", with(4, 3, 10000), false}, {"the least int", with(4, 3, -1<<63), false}, {"the greatest int", with(4, 3, 1<<63-1), false},
		{"two equal actions", with(1, 0, 0, -7), false}, {"two equal actions later", with(1, 0, 2, 9999), false}, {"decreasing first arguments", with(2, 0, 1, 9999), false}, {"decreasing second arguments", with(1, 0, 0, -8), false}, {"increasing second arguments", with(1, 0, 0, -6), true}, {"an operation twice in other places", with(4, 0, 2, 0), false}, {"decreasing operations", with(2, 3, 0), false},
		{"two actions of an operation without parameters", with(4, 1), false},
		{"a further action behind it", with(4, 1, 0), false},
	})
	check(t, []change{
		{"two actions exchanged", func(m *api.Model) { m.Actions[3], m.Actions[4] = m.Actions[4], m.Actions[3] }, false},
		{"two actions of one operation exchanged", func(m *api.Model) { m.Actions[0], m.Actions[1] = m.Actions[1], m.Actions[0] }, false},
		{"an action less", func(m *api.Model) { m.Actions = m.Actions[1:] }, true},
	})
}

func TestP13_2Deltas(t *testing.T) {
	with := func(pairs ...int) func(m *api.Model) {
		return func(m *api.Model) {
			m.Actions[3].Effect.Delta = nil
			for i := 0; i < len(pairs); i += 2 {
				m.Actions[3].Effect.Delta = append(m.Actions[3].Effect.Delta, api.Change{Cell: pairs[i], Add: pairs[i+1]})
			}
		}
	}
	var everywhere []int
	for cell := range 20 {
		everywhere = append(everywhere, cell, cell-30)
	}
	check(t, []change{
		{"all cells", with(everywhere...), true}, {"a further cell", with(20, 1), false}, {"a negative cell", with(-1, 1), false}, {"a large cell", with(1<<62, 1), false}, {"two equal cells", with(2, 1, 2, 1), false}, {"decreasing cells", with(1, 1, 3, 1, 2, 1), false},
		{"the greatest change", with(2, 1000000000), true}, {"the least change", with(2, -1000000000), true}, {"a greater change", with(2, 1000000001), false}, {"a lesser change", with(2, -1000000001), false}, {"a change by 0", with(2, 0), false}, {"a change by 0 behind others", with(2, 1, 3, 0), false}, {"the least int", with(2, -1<<63), false},
	})
}

func TestP13_2Holds(t *testing.T) {
	many := func(count int) func(m *api.Model) {
		return func(m *api.Model) {
			m.Actions[3].Effect.Hold = nil
			for range count {
				m.Actions[3].Effect.Hold = append(m.Actions[3].Effect.Hold, row(3, 2, 1))
			}
		}
	}
	check(t, []change{{"8 hold rows", many(8), true}, {"9 hold rows", many(9), false}})
}

func TestP13_2Updates(t *testing.T) {
	with := func(updates ...api.Update) func(m *api.Model) {
		return func(m *api.Model) { m.Actions[3].Effect.Updates = updates }
	}
	update := func(kind, cell, value int) api.Update { return api.Update{Kind: kind, Cell: cell, Value: value} }
	const put, drop, assign = api.UpdatePut, api.UpdateDrop, api.UpdateAssign
	changes := []change{
		{"a further cell", with(update(put, 7, 0)), false}, {"a negative cell", with(update(put, -1, 0)), false}, {"a large cell", with(update(assign, 1<<62, 0)), false}, {"another kind", with(update(3, 0, 0)), false}, {"a negative kind", with(update(-1, 3, 0)), false},
		{"two equal cells", with(update(put, 1, 0), update(drop, 1, 0)), false}, {"decreasing cells", with(update(put, 1, 0), update(put, 0, 0)), false}, {"increasing cells", with(update(put, 1, 0), update(assign, 3, 0), update(drop, 4, 0)), true},
	}
	for cell, span := range []api.Range{{}, {}, {}, {Lo: -3, Hi: 3}, {}, {Lo: 4, Hi: 9}, {Lo: 4, Hi: 9}} {
		register := span != api.Range{}
		for _, kind := range []int{put, drop} {
			for _, value := range []int{0, 1, -1, 5} {
				changes = append(changes, change{fmt.Sprint("put or drop ", value, " in ", cell), with(update(kind, cell, value)), !register && value == 0})
			}
		}
		for _, value := range []int{-1 << 63, -4, -3, 0, 1, 3, 4, 9, 10, 1<<63 - 1} {
			changes = append(changes, change{fmt.Sprint("assign ", value, " to ", cell), with(update(assign, cell, value)), register && span.Lo <= value && value <= span.Hi})
		}
	}
	check(t, changes)
	wide := func(count int) api.Model {
		m := api.Model{Sorts: []int{6}, Tables: []api.Table{table("m", api.TableAddWins, 0, 0, 1, 0, 0)}, Operations: []api.Operation{{Name: "o"}}, Actions: make([]api.Action, 1)}
		for cell := range count {
			m.Actions[0].Effect.Updates = append(m.Actions[0].Effect.Updates, update(put, cell, 0))
		}
		return m
	}
	if !model.Valid(wide(32)) || model.Valid(wide(33)) {
		t.Error("32 and 33 updates")
	}
}

func TestP13_2Hides(t *testing.T) {
	with := func(numbers ...int) func(m *api.Model) {
		return func(m *api.Model) {
			m.Hides = nil
			for i := 0; i < len(numbers); i += 3 {
				m.Hides = append(m.Hides, api.Hide{Table: numbers[i], Column: numbers[i+1], To: numbers[i+2]})
			}
		}
	}
	many := func(count int) func(m *api.Model) {
		return func(m *api.Model) {
			for len(m.Hides) < count {
				m.Hides = append(m.Hides, m.Hides[0])
			}
		}
	}
	check(t, []change{
		{"no hides", with(), true}, {"12 hides", many(12), true}, {"13 hides", many(13), false},
		{"the other order", with(tableU, 0, tableV, tableR, 0, tableU), true}, {"two targets", with(tableR, 0, tableU, tableR, 0, tableV), true}, {"two columns of one sort", with(tableE, 0, tableU, tableE, 1, tableU), true},
		{"a column of another sort", with(tableR, 1, tableU), false}, {"a column that is not there", with(tableR, 2, tableU), false}, {"a negative column", with(tableR, -1, tableU), false}, {"a large column", with(tableR, 1<<63-1, tableU), false}, {"the least int as column", with(tableR, -1<<63, tableU), false},
		{"a target with two columns", with(tableU, 0, tableE), false}, {"a target that is a set", with(tableR, 1, tableM), false}, {"a target that is a counter", with(tableR, 0, tableC), false}, {"a target that is a register", with(tableR, 0, tableH), false}, {"a counter", with(tableC, 0, tableU), false}, {"a set", with(tableM, 0, tableU), false},
		{"no table", with(10, 0, tableU), false}, {"a negative table", with(-1, 0, tableU), false}, {"no target", with(tableR, 0, 10), false}, {"a negative target", with(tableR, 0, -1), false}, {"itself", with(tableU, 0, tableU), false},
		{"two relations in a cycle", with(tableU, 0, tableV, tableV, 0, tableU), false}, {"a cycle behind other hides", with(tableR, 0, tableU, tableU, 0, tableV, tableV, 0, tableU), false}, {"a cycle in front of other hides", with(tableU, 0, tableV, tableV, 0, tableU, tableR, 0, tableU), false},
		{"a wrong hide behind others", with(tableR, 0, tableU, tableU, 0, tableV, tableR, 1, tableV), false},
	})
}

// hidden returns a model with relations with one column, and hides that are the edges of a graph on them.
func hidden(count int, edges [][2]int) api.Model {
	m := api.Model{Sorts: []int{1}, Families: []string{"f"}}
	for i := range count {
		m.Tables = append(m.Tables, table(fmt.Sprint("r", i), api.TableRelation, i, 0, 1, 0))
		m.Constraints = append(m.Constraints, api.Constraint{Row: row(0, i, -1)}, api.Constraint{Row: row(1, i, 1)})
	}
	for _, edge := range edges {
		m.Hides = append(m.Hides, api.Hide{Table: edge[0], To: edge[1]})
	}
	return m
}

func TestP13_2Cycles(t *testing.T) {
	var pairs [][2]int
	for a := range 4 {
		for b := range 4 {
			if a != b {
				pairs = append(pairs, [2]int{a, b})
			}
		}
	}
	counts := map[bool]int{}
	for mask := range 1 << len(pairs) {
		var edges [][2]int
		reached := [4][4]bool{}
		for i, pair := range pairs {
			if mask>>i&1 == 1 {
				edges = append(edges, pair)
				reached[pair[0]][pair[1]] = true
			}
		}
		for k := range 4 {
			for a := range 4 {
				for b := range 4 {
					reached[a][b] = reached[a][b] || reached[a][k] && reached[k][b]
				}
			}
		}
		want := !reached[0][0] && !reached[1][1] && !reached[2][2] && !reached[3][3]
		if got := model.Valid(hidden(4, edges)); got != want {
			t.Fatalf("the hides %v are valid: %v", edges, got)
		}
		counts[want]++
	}
	if counts[true] != 543 {
		t.Error(counts, "but 543 graphs with 4 vertices have no cycle")
	}
	var path [][2]int
	for i := range 11 {
		path = append(path, [2]int{i, i + 1})
	}
	if !model.Valid(hidden(12, path)) || model.Valid(hidden(12, append(path, [2]int{11, 0}))) || model.Valid(hidden(12, append(path, [2]int{11, 10}))) {
		t.Error("a path of 12 relations, and cycles")
	}
}

// broken returns models that are not valid.
func broken() []api.Model {
	var all []api.Model
	for i := range 9 {
		m := hand()
		switch i {
		case 0:
			m.Sorts[0] = 7
		case 1:
			m.Tables[tableH].First = 4
		case 2:
			m.Families[1] = m.Families[0]
		case 3:
			m.Constraints = m.Constraints[1:]
		case 4:
			m.Constraints[rows+1].Size = 3
		case 5:
			m.Operations[3].Sorts[0] = 2
		case 6:
			m.Actions[4].Arguments = nil
		case 7:
			m.Actions[2].Effect.Updates[1].Value = 1
		case 8:
			m.Hides[1].To = tableR
		}
		all = append(all, m)
	}
	return all
}

func TestP13_3Broken(t *testing.T) {
	m := hand()
	if len(model.Strict(m)) != 20 || len(model.Merged(m)) != 7 || model.Format(m, 2) != "o(2, 9999)" || model.Cell(m, 19) != "f(1, 1)" {
		t.Error("the model that is typed by hand has no parts")
	}
	if i, e := model.Find(m, "o(2, -9999)"); i != 1 || e != api.OK {
		t.Error(i, e)
	}
	for i, m := range broken() {
		if model.Valid(m) || len(model.Strict(m)) > 0 || len(model.Merged(m)) > 0 || model.Format(m, 0) != "" || model.Cell(m, 0) != "" {
			t.Errorf("the model %d has parts", i)
		}
		for _, text := range []string{"k()", "o(0, -7)", "x()", "(", "o(9, 9)"} {
			if action, e := model.Find(m, text); action != 0 || e != api.ErrArg {
				t.Errorf("the model %d has an action %q: %d, %d", i, text, action, e)
			}
		}
	}
}

func TestRulesValid(t *testing.T) {
	m := hand()
	model.Valid(m)
	model.Format(m, 0)
	model.Find(m, "k()")
	if !reflect.DeepEqual(m, hand()) {
		t.Error("arguments have changed")
	}
}

// P1: every function terminates for arguments of all kinds, too.
func TestP1Arguments(t *testing.T) {
	numbers := []int{-1 << 63, -1, 0, 1, 7, 1<<63 - 1}
	var all []api.Model
	for _, n := range numbers {
		m := hand()
		m.Sorts[0] = n
		all = append(all, m)
		m = hand()
		m.Tables[tableE] = table("e", n, n, n, n, n, n)
		all = append(all, m)
		m = hand()
		m.Constraints = append(m.Constraints, api.Constraint{Kind: n & 1, Family: n, First: n, Size: n, Row: row(n, n, n)})
		all = append(all, m)
		m = hand()
		m.Operations[0].Sorts[0] = n
		all = append(all, m)
		m = hand()
		m.Actions[0].Operation, m.Actions[0].Arguments[0] = n, n
		all = append(all, m)
		m = hand()
		m.Actions[0].Effect = api.Effect{Delta: []api.Change{{Cell: n, Add: n}}, Hold: []api.Row{row(n, n, n)}, Updates: []api.Update{{Kind: n, Cell: n, Value: n}}}
		all = append(all, m)
		m = hand()
		m.Hides[0] = api.Hide{Table: n, Column: n, To: n}
		all = append(all, m)
	}
	large := hand()
	large.Actions[0].Effect.Hold[0].Terms = make([]api.Term, 1<<20)
	large.Hides = make([]api.Hide, 1<<16)
	all = append(all, large, api.Model{Hides: make([]api.Hide, 3)}, api.Model{Constraints: make([]api.Constraint, 1<<16)})
	for _, m := range all {
		for _, n := range numbers {
			model.Format(m, n)
			model.Cell(m, n)
		}
		model.Find(m, strings.Repeat("o(", 3000))
		model.Strict(m)
		model.Merged(m)
	}
}
