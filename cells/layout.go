package cells

import (
	"iter"

	"confluent/api"
	"confluent/checker"
	"confluent/lexer"
	"confluent/table"
)

// layout is a list of sizes of sorts and a list of tables over them.
type layout struct {
	sizes  []int
	tables []api.Table
}

func (l layout) valid() bool {
	if len(l.sizes) > api.MaxSorts || !l.validSizes() || len(l.tables) > api.MaxTables {
		return false
	}
	count := map[bool]int{}
	for i, t := range l.tables {
		if !l.validTable(t) || !l.validName(i) || t.First != count[table.Strict(t)] {
			return false
		}
		count[table.Strict(t)] += l.area(t)
	}
	return count[true] <= api.MaxCells && count[false] <= api.MaxMerged
}

func (l layout) validSizes() bool {
	for _, size := range l.sizes {
		if size < 1 || size > api.MaxElements {
			return false
		}
	}
	return true
}

func (l layout) validTable(t api.Table) bool {
	return l.validColumns(t.Columns) && validRange(t)
}

func (l layout) validColumns(columns []int) bool {
	for _, column := range columns {
		if column < 0 || column >= len(l.sizes) {
			return false
		}
	}
	return len(columns) <= api.MaxColumns
}

// validName reports whether the name of a table is valid, and that of no earlier table.
func (l layout) validName(table int) bool {
	name := l.tables[table].Name
	first, _ := checker.Table(api.Program{Tables: l.tables}, name)
	return first == table && lexer.Name(name)
}

// validRange reports whether a table has a kind that there is, and a range that this kind can have.
func validRange(t api.Table) bool {
	switch t.Kind {
	case api.TableRelation, api.TableAddWins, api.TableRemoveWins:
		return t.Range == api.Range{Lo: 0, Hi: 1}
	case api.TableCounter, api.TableLastWriter, api.TableMultiValue:
		return -api.MaxNumber <= t.Range.Lo && t.Range.Lo <= t.Range.Hi && t.Range.Hi <= api.MaxNumber
	}
	return false
}

// all returns an iterator over the strict cells of a valid layout, or the convergent ones, in order: the index of the table and the tuple of each. The tuples of a table are one list, which changes from step to step.
func (l layout) all(isStrict bool) iter.Seq2[int, []int] {
	return func(yield func(int, []int) bool) {
		for i, t := range l.tables {
			if table.Strict(t) != isStrict {
				continue
			}
			for tuple := range tuples(l.lengths(t.Columns)...) {
				if !yield(i, tuple) {
					return
				}
			}
		}
	}
}

// lengths returns the sizes of the sorts of columns.
func (l layout) lengths(columns []int) []int {
	var lengths []int
	for _, column := range columns {
		lengths = append(lengths, l.sizes[column])
	}
	return lengths
}

// area returns how many cells a table has.
func (l layout) area(t api.Table) int {
	product := 1
	for _, length := range l.lengths(t.Columns) {
		product *= length
	}
	return product
}

// cell returns the cell of a table with one of its tuples.
func (l layout) cell(t api.Table, tuple []int) int {
	position := 0
	for i, length := range l.lengths(t.Columns) {
		position = position*length + tuple[i]
	}
	return t.First + position
}

// within reports whether a list has an element for each of some sizes.
func within(list []int, sizes ...int) bool {
	if len(list) != len(sizes) {
		return false
	}
	for i, element := range list {
		if element < 0 || element >= sizes[i] {
			return false
		}
	}
	return true
}

// tuples returns an iterator over the lists with an element for each of some sizes, which are at least 1, in lexicographic order. All of them are one list, which changes from step to step.
func tuples(sizes ...int) iter.Seq[[]int] {
	return func(yield func([]int) bool) {
		tuple := make([]int, len(sizes))
		for more := true; more; more = advance(tuple, sizes) {
			if !yield(tuple) {
				return
			}
		}
	}
}

// advance turns a tuple into the next one, or the last tuple into the first one, and reports whether there was a next one.
func advance(tuple, sizes []int) bool {
	for i := len(tuple) - 1; i >= 0; i-- {
		tuple[i]++
		if tuple[i] < sizes[i] {
			return true
		}
		tuple[i] = 0
	}
	return false
}
