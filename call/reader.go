package call

import (
	"confluent/api"
	"confluent/lexer"
)

// Reader reads the words of a text, one after the other. It contains those that have not been read.
type Reader struct{ words []string }

// NewReader returns a reader that has read nothing. A text of more than MaxSource bytes has no words.
func NewReader(text string) *Reader { return &Reader{lexer.Words(text)} }

// Done reports whether all words have been read.
func (r *Reader) Done() bool { return len(r.words) == 0 }

// Take reads a certain word, if this is the next one, and reports whether it is.
func (r *Reader) Take(word string) bool {
	if r.Done() || r.words[0] != word {
		return false
	}
	r.next()
	return true
}

// Numbers reads a name with numbers in parentheses, and reports whether the next words are one. A number with more than 4 digits is given as MaxNumber + 1.
func (r *Reader) Numbers() (string, []int, bool) { return r.call(r.number) }

// Integers reads a name with integers in parentheses in the same way.
func (r *Reader) Integers() (string, []int, bool) { return r.call(r.Integer) }

// Integer reads a number that a hyphen can stand in front of, and reports whether the next words are one. More than 4 digits are given as MaxNumber + 1, or its negative.
func (r *Reader) Integer() (int, bool) {
	negative := r.Take("-")
	value, ok := r.number()
	if negative {
		value = -value
	}
	return value, ok
}

// call reads a name with values in parentheses, each of which is read by one function.
func (r *Reader) call(value func() (int, bool)) (string, []int, bool) {
	name := r.next()
	if lexer.Kind(name) != api.TokenName || !r.Take("(") {
		return "", nil, false
	}
	var values []int
	for first := true; !r.Take(")"); first = false {
		if !first && !r.Take(",") {
			return "", nil, false
		}
		v, ok := value()
		if !ok {
			return "", nil, false
		}
		values = append(values, v)
	}
	return name, values, true
}

// next reads a word. It returns the empty string, which is no word, if there is none.
func (r *Reader) next() string {
	if r.Done() {
		return ""
	}
	word := r.words[0]
	r.words = r.words[1:]
	return word
}

func (r *Reader) number() (int, bool) {
	word := r.next()
	if lexer.Kind(word) != api.TokenNumber {
		return 0, false
	}
	if value, ok := lexer.Number(word); ok {
		return value, true
	}
	return api.MaxNumber + 1, true
}
