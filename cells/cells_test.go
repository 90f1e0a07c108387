package cells_test

import (
	"fmt"
	"reflect"
	"slices"
	"strings"
	"testing"

	"confluent/api"
	"confluent/cells"
	"confluent/checker"
)

func relation(name string, first int, columns ...int) api.Table {
	return api.Table{Name: name, Columns: columns, Range: api.Range{Hi: 1}, First: first}
}

func table(name string, kind, lo, hi, first int, columns ...int) api.Table {
	return api.Table{Name: name, Kind: kind, Columns: columns, Range: api.Range{Lo: lo, Hi: hi}, First: first}
}

// chapter returns the layout of the example.
func chapter() ([]int, []api.Table) {
	return []int{2, 3}, []api.Table{relation("r", 0, 0, 1), table("u", api.TableAddWins, 0, 1, 0, 1), table("c", api.TableCounter, -4, 9, 6)}
}

// wide returns a layout with tables of all kinds.
func wide() ([]int, []api.Table) {
	return []int{3, 1, 6, 2}, []api.Table{
		table("g", api.TableMultiValue, -3, -3, 0, 3, 0), table("c", api.TableCounter, -9999, 9999, 0, 0, 3, 0), relation("r", 18), table("w", api.TableLastWriter, 0, 5, 6),
		table("a", api.TableAddWins, 0, 1, 7, 2), relation("q", 19, 3, 2), table("d", api.TableCounter, 0, 0, 31), table("x", api.TableRemoveWins, 0, 1, 13, 1, 1), relation("k", 32, 1),
	}
}

func TestP9_1Sizes(t *testing.T) {
	if got := cells.Sizes([]api.Sort{{Name: "s", Size: 2}, {Name: "", Size: -7}, {Name: "s", Size: 6}}); !slices.Equal(got, []int{2, -7, 6}) {
		t.Error(got)
	}
	if got := cells.Sizes(nil); len(got) > 0 {
		t.Error(got)
	}
}

// many returns relations without columns.
func many(count int) []api.Table {
	var all []api.Table
	for i := range count {
		all = append(all, relation(fmt.Sprint("r", i), i))
	}
	return all
}

func TestP9_1Valid(t *testing.T) {
	valid := func(want bool, sizes []int, tables ...api.Table) {
		t.Helper()
		if got := cells.Valid(sizes, tables); got != want {
			t.Errorf("%v %v is valid: %v", sizes, tables, got)
		}
	}
	valid(true, nil)
	valid(true, []int{1, 6, 1, 6})
	valid(false, []int{1, 1, 1, 1, 1})
	for _, size := range []int{0, -1, 7, 1 << 40, -1 << 63, 1<<63 - 1} {
		valid(false, []int{size})
		valid(false, []int{2, size}, relation("r", 0, 0))
	}
	valid(true, nil, many(api.MaxTables)...)
	valid(false, nil, many(api.MaxTables+1)...)
	for _, name := range []string{"a", "z9_", "sorts", strings.Repeat("n", api.MaxName)} {
		valid(true, nil, relation(name, 0))
	}
	for _, name := range []string{"", "A", "sort", "or", "1", "_a", "a ", "a b", "é", "a;", strings.Repeat("n", api.MaxName+1)} {
		valid(false, nil, relation(name, 0))
		valid(false, nil, relation("ok", 0), table(name, api.TableAddWins, 0, 1, 0))
	}
	valid(false, nil, relation("r", 0), relation("r", 1))
	valid(false, nil, relation("r", 0), relation("q", 1), table("r", api.TableAddWins, 0, 1, 0))
	for _, kind := range []int{-1, 6, 1 << 40, -1 << 63} {
		valid(false, nil, table("r", kind, 0, 1, 0))
	}
	valid(true, []int{2, 2, 2, 3}, relation("r", 0, 0, 3, 0))
	valid(false, []int{1}, relation("r", 0, 0, 0, 0, 0))
	for _, column := range []int{-1, 2, 1 << 40, -1 << 63} {
		valid(false, []int{2, 2}, relation("r", 0, 0, column))
	}
}

func TestP9_1ValidRanges(t *testing.T) {
	ranges := []api.Range{{Lo: 0, Hi: 1}, {Lo: 0, Hi: 0}, {Lo: 1, Hi: 1}, {Lo: 0, Hi: 2}, {Lo: -1, Hi: 1}, {Lo: -9999, Hi: 9999}, {Lo: -9999, Hi: -9999}, {Lo: 1, Hi: 0}, {Lo: -10000, Hi: 0}, {Lo: 0, Hi: 10000}, {Lo: -1 << 63, Hi: 1<<63 - 1}, {Lo: 1<<63 - 1, Hi: -1 << 63}}
	for i, r := range ranges {
		for kind := api.TableRelation; kind <= api.TableMultiValue; kind++ {
			values := kind == api.TableCounter || kind == api.TableLastWriter || kind == api.TableMultiValue
			want := i == 0 || values && i < 7
			if got := cells.Valid(nil, []api.Table{table("t", kind, r.Lo, r.Hi, 0)}); got != want {
				t.Errorf("%v is a valid range of the kind %d: %v", r, kind, got)
			}
		}
	}
}

func TestP9_1ValidFirst(t *testing.T) {
	for _, layout := range []func() ([]int, []api.Table){chapter, wide} {
		sizes, tables := layout()
		if !cells.Valid(sizes, tables) {
			t.Fatal(tables)
		}
		for i := range tables {
			for _, by := range []int{-1, 1, 6, 1 << 62} {
				sizes, tables := layout()
				tables[i].First += by
				if cells.Valid(sizes, tables) {
					t.Errorf("the table %d can begin %d cells later", i, by)
				}
			}
		}
	}
}

// filled returns tables of a kind with so many cells together: one for each of some numbers of columns of the size 4.
func filled(kind int, columns ...int) []api.Table {
	var all []api.Table
	next := 0
	for i, count := range columns {
		all = append(all, table(fmt.Sprint("t", kind, "_", i), kind, 0, 1, next, make([]int, count)...))
		next += 1 << (2 * count)
	}
	return all
}

func TestP9_1ValidCells(t *testing.T) {
	sizes := []int{4}
	for kind := api.TableRelation; kind <= api.TableMultiValue; kind++ {
		strict := kind == api.TableRelation || kind == api.TableCounter
		for i, c := range []struct {
			columns                    []int
			wantStrict, wantConvergent bool
		}{
			{[]int{3}, true, true}, {[]int{2, 2, 2, 2}, true, true}, {[]int{2, 2, 2, 1, 1, 1, 1}, true, true},
			{[]int{3, 0}, true, false}, {[]int{0, 3}, true, false}, {[]int{2, 2, 2, 1, 1, 1, 1, 0}, true, false}, {[]int{3, 3}, true, false}, {[]int{3, 2, 2, 2, 2}, true, false},
			{[]int{3, 3, 0}, false, false}, {[]int{0, 3, 3}, false, false}, {[]int{3, 3, 3}, false, false},
		} {
			want := strict && c.wantStrict || !strict && c.wantConvergent
			if got := cells.Valid(sizes, filled(kind, c.columns...)); got != want {
				t.Errorf("%d tables of the kind %d are valid: %v", i, kind, got)
			}
		}
	}
	if !cells.Valid(sizes, append(filled(api.TableRelation, 3, 3), filled(api.TableAddWins, 3)...)) {
		t.Error("strict and convergent cells are counted together")
	}
	if !cells.Valid([]int{6, 3}, []api.Table{relation("r", 0, 0, 0, 1), relation("q", 108, 1, 0)}) || cells.Valid([]int{6, 3}, []api.Table{relation("r", 0, 0, 0, 1), relation("q", 108, 1, 0), relation("k", 126, 1)}) {
		t.Error("126 and 129 cells")
	}
}

// combinations returns all lists with a number below each size, in lexicographic order.
func combinations(sizes ...int) [][]int {
	if len(sizes) == 0 {
		return [][]int{{}}
	}
	var all [][]int
	for first := range sizes[0] {
		for _, rest := range combinations(sizes[1:]...) {
			all = append(all, append([]int{first}, rest...))
		}
	}
	return all
}

func same(a, b [][]int) bool { return slices.EqualFunc(a, b, slices.Equal) }

func TestP9_1Tuples(t *testing.T) {
	sizes := []int{2, 3, 1, 6, 4} // a layout has at most 4 sizes, but tuples need no layout
	lists := [][]int{{}}
	for range 3 {
		var next [][]int
		for _, columns := range lists {
			for column := range sizes {
				next = append(next, append(slices.Clone(columns), column))
			}
		}
		for _, columns := range lists {
			var lengths []int
			for _, column := range columns {
				lengths = append(lengths, sizes[column])
			}
			if got, want := cells.Tuples(sizes, columns), combinations(lengths...); !same(got, want) {
				t.Fatalf("%v has the tuples %v, not %v", columns, got, want)
			}
		}
		lists = append(lists, next...)
	}
	if got := cells.Tuples(nil, nil); len(got) != 1 || len(got[0]) != 0 {
		t.Error("no columns have the tuples", got)
	}
	if got := cells.Tuples([]int{6}, []int{0, 0, 0}); len(got) != 216 || !slices.Equal(got[215], []int{5, 5, 5}) {
		t.Error(got)
	}
}

func TestP9_1NoTuples(t *testing.T) {
	for _, c := range []struct{ sizes, columns []int }{
		{[]int{2}, []int{1}}, {[]int{2}, []int{-1}}, {[]int{2}, []int{0, 1 << 40}}, {nil, []int{0}}, {[]int{1}, []int{0, 0, 0, 0}}, {[]int{0}, []int{0}}, {[]int{7}, []int{0}}, {[]int{-1}, []int{0}}, {[]int{2, 0}, []int{0}}, {[]int{1 << 62}, []int{0, 0}}, {[]int{9}, nil},
	} {
		if got := cells.Tuples(c.sizes, c.columns); len(got) > 0 {
			t.Errorf("%v has the tuples %v", c, got)
		}
	}
}

// defined is a cell by its definition.
type defined struct {
	table int
	tuple []int
	span  api.Range
	text  string
}

// definition returns the strict cells of a valid layout, or the convergent ones.
func definition(sizes []int, tables []api.Table, strict bool) []defined {
	var all []defined
	for i, t := range tables {
		if (t.Kind == api.TableRelation || t.Kind == api.TableCounter) != strict {
			continue
		}
		var lengths []int
		for _, column := range t.Columns {
			lengths = append(lengths, sizes[column])
		}
		for _, tuple := range combinations(lengths...) {
			text := t.Name + "(" + strings.ReplaceAll(strings.Trim(fmt.Sprint(tuple), "[]"), " ", ", ") + ")"
			all = append(all, defined{i, tuple, t.Range, text})
		}
	}
	return all
}

func forLayouts(check func(sizes []int, tables []api.Table, strict bool, want []defined)) {
	for _, layout := range []func() ([]int, []api.Table){chapter, wide, func() ([]int, []api.Table) { return nil, nil }, func() ([]int, []api.Table) { return nil, many(12) }} {
		for _, strict := range []bool{true, false} {
			sizes, tables := layout()
			check(sizes, tables, strict, definition(sizes, tables, strict))
		}
	}
}

func TestP9_2Cells(t *testing.T) {
	forLayouts(func(sizes []int, tables []api.Table, strict bool, want []defined) {
		if got := cells.Count(sizes, tables, strict); got != len(want) {
			t.Errorf("%d cells, not %d", got, len(want))
		}
		ranges := cells.Ranges(sizes, tables, strict)
		if len(ranges) != len(want) {
			t.Fatalf("%d ranges, not %d", len(ranges), len(want))
		}
		for i, d := range want {
			if ranges[i] != d.span {
				t.Errorf("%s has the range %v, not %v", d.text, ranges[i], d.span)
			}
			if got, e := cells.Cell(sizes, tables, d.table, d.tuple); got != i || e != api.OK {
				t.Errorf("%s is %d, %d, not %d", d.text, got, e, i)
			}
			if table, tuple, ok := cells.Tuple(sizes, tables, strict, i); table != d.table || !slices.Equal(tuple, d.tuple) || !ok {
				t.Errorf("%d is %d %v, %v, not %s", i, table, tuple, ok, d.text)
			}
		}
		for _, cell := range []int{-1, len(want), len(want) + 1, -1 << 63, 1<<63 - 1} {
			if table, tuple, ok := cells.Tuple(sizes, tables, strict, cell); table != 0 || len(tuple) > 0 || ok {
				t.Errorf("there is a cell %d: %d %v %v", cell, table, tuple, ok)
			}
		}
	})
}

func TestP9_2Chapter(t *testing.T) {
	sizes, tables := chapter()
	for _, c := range []struct {
		table, cell int
		tuple       []int
	}{{0, 0, []int{0, 0}}, {0, 1, []int{0, 1}}, {0, 2, []int{0, 2}}, {0, 3, []int{1, 0}}, {0, 5, []int{1, 2}}, {2, 6, nil}, {1, 0, []int{0}}, {1, 1, []int{1}}, {1, 2, []int{2}}} {
		if got, e := cells.Cell(sizes, tables, c.table, c.tuple); got != c.cell || e != api.OK {
			t.Errorf("%v: %d, %d", c, got, e)
		}
	}
	if cells.Count(sizes, tables, true) != 7 || cells.Count(sizes, tables, false) != 3 {
		t.Error("the numbers of cells are wrong")
	}
	if got := cells.Ranges(sizes, tables, true); !slices.Equal(got, append(slices.Repeat([]api.Range{{Hi: 1}}, 6), api.Range{Lo: -4, Hi: 9})) {
		t.Error(got)
	}
}

func TestP9_2Errors(t *testing.T) {
	sizes, tables := wide()
	for _, table := range []int{-1, len(tables), -1 << 63, 1<<63 - 1} {
		for _, tuple := range [][]int{nil, {0}, {99}} {
			if cell, e := cells.Cell(sizes, tables, table, tuple); cell != 0 || e != api.ErrNotFound {
				t.Errorf("table %d: %d, %d", table, cell, e)
			}
		}
	}
	for i, c := range []struct {
		table int
		tuple []int
	}{{1, nil}, {1, []int{0, 0}}, {1, []int{0, 0, 0, 0}}, {1, []int{3, 0, 0}}, {1, []int{0, 2, 0}}, {1, []int{0, 0, 3}}, {1, []int{-1, 0, 0}}, {1, []int{1, -1, 0}}, {1, []int{1 << 62, 0, 0}}, {2, []int{0}}, {7, []int{0, 1}}} {
		if cell, e := cells.Cell(sizes, tables, c.table, c.tuple); cell != 0 || e != api.ErrRange {
			t.Errorf("%d: %d, %d", i, cell, e)
		}
	}
}

// invalid returns layouts that are not valid.
func invalid() [][]api.Table {
	var all [][]api.Table
	for i := range 5 {
		_, tables := chapter()
		switch i {
		case 0:
			tables[2].First = 7
		case 1:
			tables[0].Range.Hi = 2
		case 2:
			tables[1].Name = "r"
		case 3:
			tables[0].Columns[1] = 2
		case 4:
			tables[1].Kind = 6
		}
		all = append(all, tables)
	}
	return all
}

func TestP9_2InvalidLayouts(t *testing.T) {
	for i, tables := range invalid() {
		for _, strict := range []bool{true, false} {
			sizes := []int{2, 3}
			if cells.Count(sizes, tables, strict) != 0 || len(cells.Ranges(sizes, tables, strict)) > 0 || cells.Format(sizes, tables, strict, 0) != "" {
				t.Errorf("the layout %d has cells", i)
			}
			if table, tuple, ok := cells.Tuple(sizes, tables, strict, 5); table != 0 || len(tuple) > 0 || ok {
				t.Errorf("the layout %d has a tuple %v", i, tuple)
			}
		}
		for table := -1; table < 4; table++ {
			if cell, e := cells.Cell([]int{2, 3}, tables, table, []int{1, 1}); cell != 0 || e != api.ErrArg {
				t.Errorf("the layout %d has a cell: %d, %d", i, cell, e)
			}
		}
		for _, text := range []string{"r(1, 1)", "c()", "x()", "r(", "r(9)"} {
			if table, cell, e := cells.Parse([]int{2, 3}, tables, text); table != 0 || cell != 0 || e != api.ErrArg {
				t.Errorf("the layout %d has %q: %d %d %d", i, text, table, cell, e)
			}
		}
	}
}

func TestP9_3Texts(t *testing.T) {
	forLayouts(func(sizes []int, tables []api.Table, strict bool, want []defined) {
		for i, d := range want {
			if got := cells.Format(sizes, tables, strict, i); got != d.text {
				t.Errorf("%q, not %q", got, d.text)
			}
			for _, text := range []string{d.text, strings.ReplaceAll(d.text, " ", ""), " # a cell\n" + strings.ReplaceAll(d.text, "(", "\t(\r\n") + " "} {
				if table, cell, e := cells.Parse(sizes, tables, text); table != d.table || cell != i || e != api.OK {
					t.Errorf("%q is %d %d, %d, not %d %d", text, table, cell, e, d.table, i)
				}
			}
		}
		for _, cell := range []int{-1, len(want), -1 << 63, 1<<63 - 1} {
			if got := cells.Format(sizes, tables, strict, cell); got != "" {
				t.Errorf("there is a cell %q", got)
			}
		}
	})
}

func TestP9_3Parse(t *testing.T) {
	sizes, tables := chapter()
	long := strings.Repeat(" ", api.MaxSource-len("r(1, 2)"))
	for _, c := range []struct {
		text        string
		table, cell int
		want        api.Errno
	}{
		{"r ( 1,02 )", 0, 5, api.OK}, {"r(0001, 0000)", 0, 3, api.OK}, {"u(2)", 1, 2, api.OK}, {"c()", 2, 6, api.OK}, {"c ( ) # nothing", 2, 6, api.OK}, {"r(1, 2)" + long, 0, 5, api.OK},
		{"", 0, 0, api.ErrSyntax}, {" ", 0, 0, api.ErrSyntax}, {"r", 0, 0, api.ErrSyntax}, {"c(", 0, 0, api.ErrSyntax}, {"c)", 0, 0, api.ErrSyntax}, {"()", 0, 0, api.ErrSyntax}, {"c() c()", 0, 0, api.ErrSyntax}, {"c();", 0, 0, api.ErrSyntax}, {"r(1 2)", 0, 0, api.ErrSyntax}, {"r(1, 2", 0, 0, api.ErrSyntax}, {"r(1, 2,)", 0, 0, api.ErrSyntax}, {"r(, 1)", 0, 0, api.ErrSyntax}, {"r(1; 2)", 0, 0, api.ErrSyntax}, {"r(x, 1)", 0, 0, api.ErrSyntax}, {"r(-1, 1)", 0, 0, api.ErrSyntax}, {"r(-0, 1)", 0, 0, api.ErrSyntax}, {"r[1, 1]", 0, 0, api.ErrSyntax}, {"R(1, 1)", 0, 0, api.ErrSyntax}, {"sort(1)", 0, 0, api.ErrSyntax}, {"last()", 0, 0, api.ErrSyntax}, {"1(1)", 0, 0, api.ErrSyntax}, {"r(1, 2) " + long, 0, 0, api.ErrSyntax}, {"x(-1)", 0, 0, api.ErrSyntax}, {"\xffr(1, 2)", 0, 0, api.ErrSyntax},
		{"x(1)", 0, 0, api.ErrName}, {"rr(1, 1)", 0, 0, api.ErrName}, {"sorts(99999)", 0, 0, api.ErrName}, {"a_name_of_more_than_16()", 0, 0, api.ErrName},
		{"r()", 0, 0, api.ErrRange}, {"r(1)", 0, 0, api.ErrRange}, {"r(1, 1, 1)", 0, 0, api.ErrRange}, {"r(2, 0)", 0, 0, api.ErrRange}, {"r(0, 3)", 0, 0, api.ErrRange}, {"c(0)", 0, 0, api.ErrRange}, {"u(3)", 0, 0, api.ErrRange}, {"u(00001)", 0, 0, api.ErrRange}, {"u(00000)", 0, 0, api.ErrRange}, {"u(18446744073709551617)", 0, 0, api.ErrRange}, {"u(9999)", 0, 0, api.ErrRange},
	} {
		if table, cell, e := cells.Parse(sizes, tables, c.text); table != c.table || cell != c.cell || e != c.want {
			t.Errorf("%.40q is %d %d, %d", c.text, table, cell, e)
		}
	}
}

func TestP9_4Consequences(t *testing.T) {
	sizes, tables := wide()
	texts := map[string]bool{}
	for _, strict := range []bool{true, false} {
		last, lastTuple := -1, []int(nil)
		for cell := range cells.Count(sizes, tables, strict) {
			table, tuple, _ := cells.Tuple(sizes, tables, strict, cell)
			if table < last || table == last && slices.Compare(tuple, lastTuple) <= 0 {
				t.Errorf("%d %v stands behind %d %v", table, tuple, last, lastTuple)
			}
			last, lastTuple = table, tuple
			if again, e := cells.Cell(sizes, tables, table, tuple); again != cell || e != api.OK {
				t.Errorf("%d is %d", cell, again)
			}
			text := cells.Format(sizes, tables, strict, cell)
			if texts[text] {
				t.Errorf("two cells are %s", text)
			}
			texts[text] = true
		}
	}
}

func TestP9_4CheckedPrograms(t *testing.T) {
	for text, want := range map[string][2]int{
		"": {0, 0},
		"sort s 2; sort t 3; relation r(a: s, b: t); set u(a: t) addwins; counter c() in -4..9;":                                                                   {7, 3},
		"register y(a: t) in -9999..9999 multi; sort t 6; sort s 2; register x() in 0..0 last; counter c(a: t, b: t, c: s) in 3..4; set u(a: t, b: s) removewins;": {72, 19},
		"sort s 4; relation r(a: s, b: s, c: s); relation q(a: s, b: s, c: s); set u(a: s, b: s, c: s) addwins;":                                                   {128, 64},
	} {
		p, wrong, e := checker.Check(text)
		if e != api.OK || len(wrong) > 0 {
			t.Fatal(text, wrong, e)
		}
		sizes := cells.Sizes(p.Sorts)
		if got := [2]int{cells.Count(sizes, p.Tables, true), cells.Count(sizes, p.Tables, false)}; !cells.Valid(sizes, p.Tables) || got != want {
			t.Errorf("%q: %v", text, got)
		}
	}
}

func TestRulesMemory(t *testing.T) {
	sizes, tables := wide()
	tuples := cells.Tuples(sizes, []int{0, 3})
	_, tuple, _ := cells.Tuple(sizes, tables, true, 7)
	_, again, _ := cells.Tuple(sizes, tables, true, 7)
	clear(tuple)
	clear(tuples[0])
	clear(cells.Ranges(sizes, tables, true))
	clear(cells.Sizes([]api.Sort{{Size: 2}}))
	if tuples[0][0] = 9; tuples[1][0] != 0 || !slices.Equal(again, []int{1, 0, 1}) {
		t.Error("results share memory")
	}
	wantSizes, wantTables := wide()
	if !slices.Equal(sizes, wantSizes) || !reflect.DeepEqual(tables, wantTables) {
		t.Error("arguments have changed")
	}
}

// P1: every function terminates for arguments of all kinds, too.
func TestP1Arguments(t *testing.T) {
	sizes := [][]int{nil, {1 << 62, 1 << 62}, {-1, 0, 7}, {2, 3}, {6, 6, 6, 6}}
	wild := []api.Table{{}, {Name: "r", Columns: []int{9, -9, 1 << 62}}, {Name: "r", Kind: -5, First: -1 << 63}, relation("q", 0, 0, 0, 0, 0, 0, 0, 0, 0, 0, 0, 0, 0, 0, 0, 0)}
	_, good := chapter()
	for _, s := range sizes {
		for _, tables := range [][]api.Table{nil, wild, wild[1:2], wild[3:], good, slices.Repeat(good, 500)} {
			for _, cell := range []int{-1 << 63, -1, 0, 6, 1<<63 - 1} {
				for _, strict := range []bool{true, false} {
					cells.Tuple(s, tables, strict, cell)
					cells.Format(s, tables, strict, cell)
					cells.Count(s, tables, strict)
					cells.Ranges(s, tables, strict)
				}
				cells.Cell(s, tables, cell, []int{cell, cell})
				cells.Tuples(s, []int{cell, 0})
			}
			cells.Parse(s, tables, strings.Repeat("r(", 5000))
		}
	}
}
