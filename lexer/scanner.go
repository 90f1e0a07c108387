package lexer

import (
	"iter"
	"strings"

	"confluent/api"
	"confluent/source"
)

// scanner splits a text into tokens, and takes keywords for names: only who asks for kinds pays for the table of them.
type scanner struct {
	text  string
	lines *source.Index
}

func newScanner(text string) scanner {
	return scanner{text: text, lines: source.New(text)}
}

// tokens returns an iterator over the tokens of a text of any length. The last one is TokenEnd.
func tokens(text string) iter.Seq[api.Token] {
	return func(yield func(api.Token) bool) {
		known := keywords()
		for token := range split(text) {
			if token.Kind == api.TokenName && known[text[token.At:token.End]] {
				token.Kind = api.TokenKeyword
			}
			if !yield(token) {
				return
			}
		}
	}
}

// split returns an iterator over the same tokens, with names in place of keywords.
func split(text string) iter.Seq[api.Token] {
	return func(yield func(api.Token) bool) {
		s := newScanner(text)
		token := s.next(0)
		for yield(token) && token.Kind != api.TokenEnd {
			token = s.next(token.End)
		}
	}
}

// next returns the first token behind an offset.
func (s scanner) next(from int) api.Token {
	at := s.skip(from)
	kind, end := s.token(at)
	return api.Token{Kind: kind, From: from, At: at, End: end}
}

// skip returns the offset behind all white space and comments at an offset.
func (s scanner) skip(at int) int {
	for at < len(s.text) {
		switch {
		case isSpace(s.text[at]):
			at++
		case s.text[at] == '#':
			at = s.lineEnd(at)
		default:
			return at
		}
	}
	return at
}

// lineEnd returns the end of the line of an offset: in front of its line feed, or the end of the text.
func (s scanner) lineEnd(at int) int {
	line, _ := s.lines.Position(at)
	if next, ok := s.lines.Offset(line+1, 1); ok {
		return next - 1
	}
	return len(s.text)
}

// token returns the kind and the end of the token that begins at an offset.
func (s scanner) token(at int) (int, int) {
	if at == len(s.text) {
		return api.TokenEnd, at
	}
	switch first := s.text[at]; {
	case isLetter(first):
		return api.TokenName, s.run(at, isNamePart)
	case isDigit(first):
		return api.TokenNumber, s.run(at, isDigit)
	}
	if length := symbolLength(s.text[at:]); length > 0 {
		return api.TokenSymbol, at + length
	}
	return api.TokenWrong, s.wrongEnd(at)
}

// run returns the end of the longest run of bytes of one class that begins at an offset.
func (s scanner) run(at int, class func(c byte) bool) int {
	for at < len(s.text) && class(s.text[at]) {
		at++
	}
	return at
}

// wrongEnd returns the end of the wrong token that begins at an offset.
func (s scanner) wrongEnd(at int) int {
	end := at + 1
	for end < len(s.text) && !endsWrong(s.text[end:]) {
		end++
	}
	return end
}

// endsWrong reports whether a wrong token ends in front of a text.
func endsWrong(text string) bool {
	c := text[0]
	return isSpace(c) || c == '#' || isLetter(c) || isDigit(c) || symbolLength(text) > 0
}

// symbolLength returns the length of the longest symbol at the beginning of a text, or 0.
func symbolLength(text string) int {
	if len(text) >= 2 {
		switch text[:2] {
		case "==", "!=", "<=", ">=", "..":
			return 2
		}
	}
	if strings.IndexByte("<>=+-*(){},:;", text[0]) >= 0 {
		return 1
	}
	return 0
}

func isSpace(c byte) bool    { return c == '\t' || c == '\n' || c == '\r' || c == ' ' }
func isLetter(c byte) bool   { return c >= 'a' && c <= 'z' }
func isDigit(c byte) bool    { return c >= '0' && c <= '9' }
func isNamePart(c byte) bool { return isLetter(c) || isDigit(c) || c == '_' }

// keywordList contains all keywords, each between two blanks.
const keywordList = " sort relation counter set register invariant operation key reference to count acyclic all sum in addwins removewins last multi hide ordered require hold insert delete add from put drop assign for where and or not "

// isKeyword reports whether a name is a keyword. For a single one this is less work than the table of them.
func isKeyword(name string) bool { return strings.Contains(keywordList, " "+name+" ") }

func keywords() map[string]bool {
	known := map[string]bool{}
	for _, word := range strings.Fields(keywordList) {
		known[word] = true
	}
	return known
}
