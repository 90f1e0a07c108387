// Package call is no layer: it reads and writes texts that are a name with integers in parentheses, as those of cells and of instances are, also where they stand among other words.
package call

import (
	"strconv"
	"strings"
)

// Format returns the text of a name with integers.
func Format(name string, integers ...int) string {
	var words []string
	for _, value := range integers {
		words = append(words, strconv.Itoa(value))
	}
	return name + "(" + strings.Join(words, ", ") + ")"
}

// Numbers returns the name and the numbers of a text, and whether it has this form. A number with more than 4 digits is given as MaxNumber + 1, which no sort and no range has.
func Numbers(text string) (string, []int, bool) {
	return whole(text, (*Reader).Numbers)
}

// Integers does the same for a text in which a hyphen can stand in front of each number.
func Integers(text string) (string, []int, bool) {
	return whole(text, (*Reader).Integers)
}

// whole returns the name and the values of a text that consists of them.
func whole(text string, read func(r *Reader) (string, []int, bool)) (string, []int, bool) {
	r := NewReader(text)
	name, values, ok := read(r)
	if !ok || !r.Done() {
		return "", nil, false
	}
	return name, values, true
}
