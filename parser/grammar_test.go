package parser_test

import (
	"math/rand"
	"regexp"
	"slices"
	"strings"

	"confluent/api"
	"confluent/lexer"
)

// grammar is the grammar of the chapter.
const grammar = `
program     = { declaration } .
declaration = "sort" NAME NUMBER ";" | "relation" NAME columns ";" | "counter" NAME columns "in" range ";"
            | "set" NAME columns ( "addwins" | "removewins" ) ";"
            | "register" NAME columns "in" range ( "last" | "multi" ) ";"
            | "invariant" NAME ":" ( key | reference | count | acyclic | linear ) ";"
            | "operation" NAME parameters [ "ordered" ] block .
columns     = "(" [ column { "," column } ] ")" .               column  = NAME ":" NAME .
range       = integer ".." integer .                            integer = [ "-" ] NUMBER .
key         = "key" NAME names .                                names   = "(" [ NAME { "," NAME } ] ")" .
reference   = "reference" NAME "(" NAME ")" "to" NAME [ "hide" ] .
count       = "count" NAME names sign integer .                 sign    = "<=" | ">=" .
acyclic     = "acyclic" NAME .                                  linear  = "all" columns total sign integer .
total       = [ "-" ] term { ( "+" | "-" ) term } .             term    = [ NUMBER "*" ] [ "sum" columns ] cell .
cell        = NAME "(" [ argument { "," argument } ] ")" .      argument = NAME | NUMBER .
parameters  = "(" [ parameter { "," parameter } ] ")" .         parameter = NAME ( ":" NAME | "in" range ) .
block       = "{" { statement } "}" .
statement   = "require" expression ";" | "hold" total sign expression ";" | "insert" cell ";" | "delete" cell ";"
            | "add" expression "to" cell ";" | "put" cell ";" | "drop" cell ";"
            | "assign" cell "=" expression ";" | "for" column [ "where" expression ] block .
expression  = conjunction { "or" conjunction } .                conjunction = negation { "and" negation } .
negation    = "not" negation | comparison .
comparison  = difference [ ( "==" | "!=" | "<" | "<=" | ">" | ">=" ) difference ] .
difference  = product { ( "+" | "-" ) product } .               product = unary { "*" unary } .
unary       = "-" unary | primary .                             primary = NUMBER | NAME | "(" expression ")" .
`

// term is a part of the grammar: a token, the name of a rule, or parts that are a choice, a sequence, optional or repeated.
type term struct {
	sort  string // "token", "rule", "|", ",", "[" or "{"
	word  string
	parts []term
}

// rules are the rules of the grammar, read from its text.
func rules() map[string]term {
	words := regexp.MustCompile(`"[^"]*"|[A-Za-z]+|[^\s]`).FindAllString(grammar, -1)
	all := map[string]term{}
	for len(words) > 0 {
		name := words[0]
		words = words[2:]
		all[name] = readChoice(&words)
		words = words[1:]
	}
	return all
}

func readChoice(words *[]string) term {
	choice := term{sort: "|", parts: []term{readSequence(words)}}
	for (*words)[0] == "|" {
		*words = (*words)[1:]
		choice.parts = append(choice.parts, readSequence(words))
	}
	return choice
}

func readSequence(words *[]string) term {
	sequence := term{sort: ","}
	for !strings.Contains("|)]}.", (*words)[0]) {
		word := (*words)[0]
		*words = (*words)[1:]
		part := term{sort: "rule", word: word}
		switch {
		case word == "(" || word == "[" || word == "{":
			part = term{sort: word, parts: []term{readChoice(words)}}
			*words = (*words)[1:]
		case word[0] == '"':
			part = term{sort: "token", word: strings.Trim(word, `"`)}
		case word == "NAME" || word == "NUMBER":
			part = term{sort: "token", word: word}
		}
		sequence.parts = append(sequence.parts, part)
	}
	return sequence
}

// recognizer matches tokens with the grammar in all possible ways.
type recognizer struct {
	rules    map[string]term
	words    []string
	kinds    []int
	known    map[string][][]int
	furthest int // the greatest index of a token that was demanded and not there
}

func newRecognizer(rules map[string]term, text string) *recognizer {
	r := &recognizer{rules: rules, known: map[string][][]int{}}
	tokens, _ := lexer.Scan(text)
	for _, token := range tokens {
		if token.Kind != api.TokenWrong {
			r.words = append(r.words, text[token.At:token.End])
			r.kinds = append(r.kinds, token.Kind)
		}
	}
	return r
}

func (r *recognizer) is(at int, word string) bool {
	switch word {
	case "NAME":
		return r.kinds[at] == api.TokenName
	case "NUMBER":
		return r.kinds[at] == api.TokenNumber
	}
	return r.words[at] == word
}

// ends returns the indices of tokens behind all matches of a term that begin at a token.
func (r *recognizer) ends(t term, at int) []int {
	switch t.sort {
	case "token":
		if r.is(at, t.word) {
			return []int{at + 1}
		}
		r.furthest = max(r.furthest, at)
		return nil
	case "rule":
		return r.ruleEnds(t.word, at)
	case ",":
		ends := []int{at}
		for _, part := range t.parts {
			ends = r.step(part, ends)
		}
		return ends
	case "{":
		all, last := []int{at}, []int{at}
		for len(last) > 0 {
			last = slices.DeleteFunc(r.step(t.parts[0], last), func(end int) bool { return slices.Contains(all, end) })
			all = append(all, last...)
		}
		return all
	}
	var ends []int
	if t.sort == "[" {
		ends = append(ends, at)
	}
	for _, part := range t.parts {
		ends = append(ends, r.ends(part, at)...)
	}
	slices.Sort(ends)
	return slices.Compact(ends)
}

func (r *recognizer) step(t term, from []int) []int {
	var ends []int
	for _, at := range from {
		ends = append(ends, r.ends(t, at)...)
	}
	slices.Sort(ends)
	return slices.Compact(ends)
}

func (r *recognizer) ruleEnds(name string, at int) []int {
	known := r.known[name]
	if known == nil {
		known = make([][]int, len(r.words)+1)
		r.known[name] = known
	}
	if known[at] == nil {
		known[at] = append([]int{}, r.ends(r.rules[name], at)...)
	}
	return slices.Clone(known[at])
}

// wrong returns the index of the first token that cannot stand where it stands, or -1 if the tokens are a whole of the grammar.
func (r *recognizer) wrong(start string) int {
	ends := r.ends(term{sort: "rule", word: start}, 0)
	end := len(r.words) - 1
	if slices.Contains(ends, end) {
		return -1
	}
	return max(r.furthest, slices.Max(append(ends, 0)))
}

// writer writes random texts of the grammar.
type writer struct {
	rules  map[string]term
	least  map[string]int // the least levels of rules
	random *rand.Rand
	plain  bool // no parentheses around expressions
	words  []string
}

func newWriter(seed int64) *writer {
	w := &writer{rules: rules(), least: map[string]int{}, random: rand.New(rand.NewSource(seed))}
	for name := range w.rules {
		w.least[name] = 1000
	}
	for range w.rules {
		for name, rule := range w.rules {
			w.least[name] = min(w.least[name], 1+w.levels(rule))
		}
	}
	return w
}

func (w *writer) levels(t term) int {
	levels := 0
	switch t.sort {
	case "rule":
		return w.least[t.word]
	case ",":
		for _, part := range t.parts {
			levels = max(levels, w.levels(part))
		}
	case "|", "(":
		levels = 1000
		for _, part := range t.parts {
			levels = min(levels, w.levels(part))
		}
	}
	return levels
}

func (w *writer) write(t term, depth int) {
	switch t.sort {
	case "token":
		w.words = append(w.words, w.token(t.word))
	case "rule":
		w.write(w.rules[t.word], depth-1)
	case ",":
		for _, part := range t.parts {
			w.write(part, depth)
		}
	case "|", "(":
		w.write(t.parts[w.pick(t.parts, depth)], depth)
	case "[":
		if w.levels(t.parts[0]) < depth && w.random.Intn(2) == 0 {
			w.write(t.parts[0], depth)
		}
	case "{":
		for w.levels(t.parts[0]) < depth && w.random.Intn(9) > 4 {
			w.write(t.parts[0], depth)
		}
	}
}

func (w *writer) pick(parts []term, depth int) int {
	var fitting []int
	for i, part := range parts {
		bracket := len(part.parts) > 1 && part.parts[0].word == "(" && part.parts[1].word == "expression"
		if w.levels(part) <= max(depth, w.levels(term{sort: "|", parts: parts})) && !(w.plain && bracket) {
			fitting = append(fitting, i)
		}
	}
	return fitting[w.random.Intn(len(fitting))]
}

func (w *writer) token(word string) string {
	switch word {
	case "NAME":
		return []string{"a", "b1", "x_", "a_name_of_16_byt"}[w.random.Intn(4)]
	case "NUMBER":
		return []string{"0", "1", "20", "9999"}[w.random.Intn(4)]
	}
	return word
}

// text returns the words of a random text that a rule describes.
func (w *writer) text(start string, depth int) []string {
	w.words = nil
	w.write(term{sort: "rule", word: start}, depth)
	return w.words
}
