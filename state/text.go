package state

import (
	"slices"
	"strconv"
	"strings"

	"confluent/api"
	"confluent/call"
	"confluent/cells"
	"confluent/model"
	"confluent/table"
)

// Format returns the text of a state.
func Format(m api.Model, state []int) (string, api.Errno) {
	if !isState(m, state) {
		return "", api.ErrArg
	}
	if slices.ContainsFunc(state, isTooLong) {
		return "", api.ErrRange
	}
	initial := Initial(m)
	var text strings.Builder
	for cell, value := range state {
		if value != initial[cell] {
			text.WriteString(cells.Format(m.Sorts, m.Tables, true, cell) + " = " + strconv.Itoa(value) + ";\n")
		}
	}
	if text.Len() > api.MaxSource {
		return "", api.ErrTooLarge
	}
	return text.String(), api.OK
}

// Parse returns the state that a text names.
func Parse(m api.Model, text string) ([]int, api.Errno) {
	switch {
	case !model.Valid(m):
		return nil, api.ErrArg
	case len(text) > api.MaxSource:
		return nil, api.ErrTooLarge
	}
	entries, ok := read(text)
	if !ok {
		return nil, api.ErrSyntax
	}
	return assigned(m, entries)
}

// isTooLong reports whether a value has more digits than numbers can have.
func isTooLong(value int) bool { return value < -api.MaxNumber || value > api.MaxNumber }

// entry is what a text says of one cell.
type entry struct {
	name  string
	tuple []int
	value int
}

// read returns the entries of a text, and whether it consists of them.
func read(text string) ([]entry, bool) {
	var entries []entry
	for r := call.NewReader(text); !r.Done(); {
		name, tuple, isCell := r.Numbers()
		if !isCell || !r.Take("=") {
			return nil, false
		}
		value, isInteger := r.Integer()
		if !isInteger || !r.Take(";") {
			return nil, false
		}
		entries = append(entries, entry{name, tuple, value})
	}
	return entries, true
}

// assigned returns the initial state with the values of entries.
func assigned(m api.Model, entries []entry) ([]int, api.Errno) {
	state := Initial(m)
	named := map[int]bool{}
	for _, n := range entries {
		cell, e := cellOf(m, n)
		switch {
		case e != api.OK:
			return nil, e
		case isTooLong(n.value):
			return nil, api.ErrRange
		case named[cell]:
			return nil, api.ErrExists
		}
		state[cell] = n.value
		named[cell] = true
	}
	return state, api.OK
}

// cellOf returns the strict cell that an entry names.
func cellOf(m api.Model, n entry) (int, api.Errno) {
	index := slices.IndexFunc(m.Tables, func(t api.Table) bool { return table.Strict(t) && t.Name == n.name })
	if index < 0 {
		return 0, api.ErrName
	}
	return cells.Cell(m.Sorts, m.Tables, index, n.tuple)
}
