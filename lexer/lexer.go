// Package lexer is layer 2: it splits programs into tokens. See shared/doc/02-lexer.md.
package lexer

import (
	"iter"
	"slices"
	"strconv"
	"strings"

	"confluent/api"
)

// maxDigits is the number of digits of the longest valid number.
const maxDigits = 4

// Scan returns the tokens of a text.
func Scan(text string) ([]api.Token, api.Errno) {
	if len(text) > api.MaxSource {
		return nil, api.ErrTooLarge
	}
	return slices.Collect(tokens(text)), api.OK
}

// Words returns the words of all tokens of a text but TokenEnd.
func Words(text string) []string {
	if len(text) > api.MaxSource {
		return nil
	}
	return slices.Collect(words(text))
}

// Kind returns the kind of the token that is a word, or TokenEnd if the word is not exactly one token.
func Kind(word string) int {
	token := newScanner(word).next(0)
	switch {
	case token.At != 0 || token.End != len(word):
		return api.TokenEnd
	case token.Kind == api.TokenName && isKeyword(word):
		return api.TokenKeyword
	}
	return token.Kind
}

// Name reports whether a word is a valid name.
func Name(word string) bool {
	return len(word) <= api.MaxName && Kind(word) == api.TokenName
}

// Number returns the value of a valid number, and whether the word is one.
func Number(word string) (int, bool) {
	if len(word) > maxDigits || Kind(word) != api.TokenNumber {
		return 0, false
	}
	value, err := strconv.Atoi(word)
	return value, err == nil
}

// Separate reports whether two words need a separator.
func Separate(a, b string) bool {
	return !slices.Equal(slices.Collect(words(a+b)), []string{a, b})
}

// Compact returns the words of a text with as few blanks between them as possible.
func Compact(text string) string {
	var compact strings.Builder
	last := ""
	for i, word := range Words(text) {
		if i > 0 && Separate(last, word) {
			compact.WriteByte(' ')
		}
		compact.WriteString(word)
		last = word
	}
	return compact.String()
}

// words returns an iterator over the words of all tokens of a text of any length but TokenEnd.
func words(text string) iter.Seq[string] {
	return func(yield func(string) bool) {
		for token := range split(text) {
			if token.Kind == api.TokenEnd || !yield(text[token.At:token.End]) {
				return
			}
		}
	}
}
