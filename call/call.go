// Package call reads and writes texts that are a name with integers in parentheses, as those of cells and of instances are.
package call

import (
	"strconv"
	"strings"

	"confluent/api"
	"confluent/lexer"
)

// Format returns the text of a name with integers.
func Format(name string, integers ...int) string {
	var words []string
	for _, value := range integers {
		words = append(words, strconv.Itoa(value))
	}
	return name + "(" + strings.Join(words, ", ") + ")"
}

// Numbers returns the name and the numbers of a text, and whether it has this form. A number with more than 4 digits is given as MaxNumber + 1, which no sort and no range has.
func Numbers(text string) (string, []int, bool) {
	return read(text, (*reader).number)
}

// Integers does the same for a text in which a hyphen can stand in front of each number.
func Integers(text string) (string, []int, bool) {
	return read(text, (*reader).integer)
}

// read returns the name and the values of a text, each of which is read by one function.
func read(text string, value func(r *reader) (int, bool)) (string, []int, bool) {
	r := &reader{lexer.Words(text)}
	name := r.next()
	if lexer.Kind(name) != api.TokenName || !r.take("(") {
		return "", nil, false
	}
	var values []int
	for first := true; !r.take(")"); first = false {
		if !first && !r.take(",") {
			return "", nil, false
		}
		v, ok := value(r)
		if !ok {
			return "", nil, false
		}
		values = append(values, v)
	}
	if len(r.words) > 0 {
		return "", nil, false
	}
	return name, values, true
}

// reader contains the words that have not been read.
type reader struct{ words []string }

// next reads a word. It returns the empty string, which is no word, if there is none.
func (r *reader) next() string {
	if len(r.words) == 0 {
		return ""
	}
	word := r.words[0]
	r.words = r.words[1:]
	return word
}

// take reads a certain word, if this is the next one.
func (r *reader) take(word string) bool {
	if len(r.words) == 0 || r.words[0] != word {
		return false
	}
	r.next()
	return true
}

func (r *reader) number() (int, bool) {
	word := r.next()
	if lexer.Kind(word) != api.TokenNumber {
		return 0, false
	}
	if value, ok := lexer.Number(word); ok {
		return value, true
	}
	return api.MaxNumber + 1, true
}

func (r *reader) integer() (int, bool) {
	negative := r.take("-")
	value, ok := r.number()
	if negative {
		value = -value
	}
	return value, ok
}
