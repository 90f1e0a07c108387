package lexer_test

import (
	"math/rand"
	"regexp"
	"slices"
	"strings"
	"testing"

	"confluent/api"
	"confluent/lexer"
)

const keywords = "sort relation counter set register invariant operation key reference to count acyclic all sum in addwins removewins last multi hide ordered require hold insert delete add from put drop assign for where and or not"

const symbols = "== != <= >= .. < > = + - * ( ) { } , : ;"

var (
	skipped = regexp.MustCompile(`^([\t\n\r ]|#[^\n]*)+`)
	name    = regexp.MustCompile(`^[a-z][a-z0-9_]*`)
	number  = regexp.MustCompile(`^[0-9]+`)
	symbol  = regexp.MustCompile(`^(==|!=|<=|>=|\.\.|[<>=+\-*(){},:;])`)
)

// begin returns the kind and the length of the token other than TokenWrong at the beginning of a text.
func begin(text string) (int, int) {
	if word := name.FindString(text); word != "" {
		if slices.Contains(strings.Fields(keywords), word) {
			return api.TokenKeyword, len(word)
		}
		return api.TokenName, len(word)
	}
	if word := number.FindString(text); word != "" {
		return api.TokenNumber, len(word)
	}
	if word := symbol.FindString(text); word != "" {
		return api.TokenSymbol, len(word)
	}
	return api.TokenEnd, 0
}

// defined returns the tokens of a text by the definitions of the chapter.
func defined(text string) []api.Token {
	var tokens []api.Token
	for end := 0; ; {
		from, at := end, end+len(skipped.FindString(text[end:]))
		if at == len(text) {
			return append(tokens, api.Token{Kind: api.TokenEnd, From: from, At: at, End: at})
		}
		kind, length := begin(text[at:])
		end = at + length
		if length == 0 {
			kind, end = api.TokenWrong, at+1
			for end < len(text) && skipped.FindString(text[end:]) == "" {
				if _, next := begin(text[end:]); next > 0 {
					break
				}
				end++
			}
		}
		tokens = append(tokens, api.Token{Kind: kind, From: from, At: at, End: end})
	}
}

func definedWords(text string) []string {
	var words []string
	for _, token := range defined(text) {
		if token.Kind != api.TokenEnd {
			words = append(words, text[token.At:token.End])
		}
	}
	return words
}

// samples returns all short texts of some bytes, and longer ones of parts that come from a fixed seed.
func samples() []string {
	const alphabet = "a1_ #\n.=!<(A\xff"
	all, last := []string{""}, []string{""}
	for range 4 {
		var next []string
		for _, text := range last {
			for i := range len(alphabet) {
				next = append(next, text+alphabet[i:i+1])
			}
		}
		all, last = append(all, next...), next
	}
	parts := slices.Concat(strings.Fields(keywords), strings.Fields(symbols), strings.Split("x|a_1|sorts|0|12345|.|!|&|A_|\x00|\x80|é|_a|# c\n|#add|\n|\r\n|\t| |  |\v", "|"))
	r := rand.New(rand.NewSource(1))
	for range 3000 {
		var text strings.Builder
		for range r.Intn(20) {
			text.WriteString(parts[r.Intn(len(parts))])
		}
		all = append(all, text.String())
	}
	return all
}

func TestP2_1ScanAndWords(t *testing.T) {
	for _, text := range samples() {
		got, e := lexer.Scan(text)
		if want := defined(text); e != api.OK || !slices.Equal(got, want) {
			t.Fatalf("%q has the tokens %v (%d), not %v", text, got, e, want)
		}
		if got, want := lexer.Words(text), definedWords(text); !slices.Equal(got, want) {
			t.Fatalf("%q has the words %q, not %q", text, got, want)
		}
	}
}

func TestP2_1Examples(t *testing.T) {
	for text, want := range map[string][]string{
		"":                                 nil,
		" \t\r\n":                          nil,
		"# only a comment":                 nil,
		"#\n#\n":                           nil,
		"add 2 to a(x);#end":               {"add", "2", "to", "a", "(", "x", ")", ";"},
		"1..3":                             {"1", "..", "3"},
		"a.b":                              {"a", ".", "b"},
		"a#b\nc":                           {"a", "c"},
		"a#b\rc":                           {"a"},
		"1a2_b":                            {"1", "a2_b"},
		"<==>==!==":                        {"<=", "=", ">=", "=", "!=", "="},
		"....":                             {"..", ".."},
		"...":                              {"..", "."},
		"!..":                              {"!", ".."},
		"A.B!C#d":                          {"A.B!C"},
		"A.b":                              {"A.", "b"},
		"Sort":                             {"S", "ort"},
		"a\vb":                             {"a", "\v", "b"},
		"\xff\xfe\x00 \x80":                {"\xff\xfe\x00", "\x80"},
		"relation r(a: s);\r\n":            {"relation", "r", "(", "a", ":", "s", ")", ";"},
		"count r(p) <= 1 and not x*-y{,+}": {"count", "r", "(", "p", ")", "<=", "1", "and", "not", "x", "*", "-", "y", "{", ",", "+", "}"},
	} {
		if got := lexer.Words(text); !slices.Equal(got, want) {
			t.Errorf("%q has the words %q, not %q", text, got, want)
		}
	}
}

func TestP2_1TooLarge(t *testing.T) {
	for _, text := range []string{strings.Repeat("a", api.MaxSource), strings.Repeat(" ", api.MaxSource), strings.Repeat("a;", api.MaxSource/2), strings.Repeat("\xff", api.MaxSource)} {
		got, e := lexer.Scan(text)
		if e != api.OK || !slices.Equal(got, defined(text)) {
			t.Errorf("%q.. is refused: %d", text[:2], e)
		}
		if !slices.Equal(lexer.Words(text), definedWords(text)) {
			t.Errorf("%q.. has other words", text[:2])
		}
		for _, more := range []string{text + "a", text + " ", text + text} {
			if got, e := lexer.Scan(more); e != api.ErrTooLarge || len(got) > 0 {
				t.Errorf("%q.. with %d bytes: %d tokens, %d", more[:2], len(more), len(got), e)
			}
			if len(lexer.Words(more)) > 0 || lexer.Compact(more) != "" {
				t.Errorf("%q.. with %d bytes has words", more[:2], len(more))
			}
		}
	}
}

// definedKind is the kind of a word by its definition.
func definedKind(word string) int {
	if tokens := defined(word); len(tokens) == 2 && tokens[0].At == 0 && tokens[0].End == len(word) {
		return tokens[0].Kind
	}
	return api.TokenEnd
}

func TestP2_2Kind(t *testing.T) {
	for _, word := range samples() {
		if got, want := lexer.Kind(word), definedKind(word); got != want {
			t.Fatalf("%q has kind %d, not %d", word, got, want)
		}
	}
	for _, word := range strings.Fields(keywords) {
		if lexer.Kind(word) != api.TokenKeyword || lexer.Kind(word+"s") != api.TokenName {
			t.Errorf("%q is no keyword", word)
		}
	}
	for _, word := range strings.Fields(symbols) {
		if lexer.Kind(word) != api.TokenSymbol {
			t.Errorf("%q is no symbol", word)
		}
	}
	for _, word := range []string{"", " ", "#", "# add", "a ", " a", "a#", "\na", "1a", "a-", "===", "...", "A a", "Aa"} {
		if kind := lexer.Kind(word); kind != api.TokenEnd {
			t.Errorf("%q has kind %d", word, kind)
		}
	}
	for _, word := range []string{".", "!", "A", "_", "Z", "&|", "\x00", "\xff", "é", "\v"} {
		if kind := lexer.Kind(word); kind != api.TokenWrong {
			t.Errorf("%q has kind %d", word, kind)
		}
	}
}

// A word is not the text of a program, so that MaxSource does not bound it.
func TestP2_2LongWords(t *testing.T) {
	for kind, letter := range map[int]string{api.TokenName: "a", api.TokenNumber: "1", api.TokenWrong: "A"} {
		word := strings.Repeat(letter, 2*api.MaxSource)
		if got := lexer.Kind(word); got != kind {
			t.Errorf("a long word of %s has kind %d", letter, got)
		}
		if n, ok := lexer.Number(word); lexer.Name(word) || n != 0 || ok {
			t.Errorf("a long word of %s is valid", letter)
		}
		if lexer.Separate(word, ";") || !lexer.Separate(word, letter) {
			t.Errorf("a long word of %s is separated wrongly", letter)
		}
	}
}

func TestP2_2Name(t *testing.T) {
	long := strings.Repeat("n", api.MaxName)
	for _, word := range []string{"a", "z9", "a_", "a__1", "sorts", "s", "ort", long} {
		if !lexer.Name(word) {
			t.Errorf("%q is no name", word)
		}
	}
	for _, word := range append(strings.Fields(keywords), "", " ", "A", "_a", "1", "1a", "a ", " a", "a#", "a.b", "aB", "é", "a\x00", long+"n") {
		if lexer.Name(word) {
			t.Errorf("%q is a name", word)
		}
	}
	for _, word := range samples() {
		if want := definedKind(word) == api.TokenName && len(word) <= api.MaxName; lexer.Name(word) != want {
			t.Fatalf("%q: name is %v", word, !want)
		}
	}
}

func TestP2_2Number(t *testing.T) {
	for word, want := range map[string]int{"0": 0, "7": 7, "00": 0, "0000": 0, "0042": 42, "010": 10, "9999": api.MaxNumber} {
		if n, ok := lexer.Number(word); n != want || !ok {
			t.Errorf("%q is %d, %v", word, n, ok)
		}
	}
	for _, word := range []string{"", "-1", "+1", "1 ", " 1", "1#", "10000", "00000", "99999999999999999999", "1_0", "1a", "a", "0x1", "1.", "1..2", "é"} {
		if n, ok := lexer.Number(word); n != 0 || ok {
			t.Errorf("%q is %d, %v", word, n, ok)
		}
	}
}

// pieces are words, and texts that are none.
func pieces() []string {
	return slices.Concat(strings.Fields(keywords), strings.Fields(symbols), strings.Split("|a|a1|_|A|A.|A!|.|!|0|12345|&|\xff| |\n|#|# c|#c\n|a b|a |..a", "|"))
}

func TestP2_3Separate(t *testing.T) {
	for _, a := range pieces() {
		for _, b := range pieces() {
			if got, want := lexer.Separate(a, b), !slices.Equal(definedWords(a+b), []string{a, b}); got != want {
				t.Fatalf("%q and %q: %v", a, b, got)
			}
		}
	}
}

func TestP2_3SeparateExamples(t *testing.T) {
	for pair, want := range map[[2]string]bool{
		{"2", "to"}: false, {"to", "2"}: true, {"a", "b"}: true, {"1", "2"}: true,
		{"=", "="}: true, {"(", "("}: false, {"<", "="}: true, {"=", "<"}: false, {"<=", "="}: false,
		{".", "."}: true, {".", ".."}: true, {"..", "."}: false, {"1", ".."}: false, {"A", "B"}: true, {"A", "b"}: false,
		{"!", "="}: true, {"A!", "="}: true, {"A!", "=="}: true, {"", ""}: true, {"", "a"}: true, {"a", ""}: true,
		{" ", "a"}: true, {"a", "#"}: true, {"#", "a"}: true, {"a b", "c"}: true, {"a;", "b"}: true,
	} {
		if got := lexer.Separate(pair[0], pair[1]); got != want {
			t.Errorf("%q: %v", pair, got)
		}
	}
}

func TestP2_3Compact(t *testing.T) {
	for _, text := range samples() {
		var want strings.Builder
		words := definedWords(text)
		for i, word := range words {
			if i > 0 && !slices.Equal(definedWords(words[i-1]+word), words[i-1:i+1]) {
				want.WriteByte(' ')
			}
			want.WriteString(word)
		}
		if got := lexer.Compact(text); got != want.String() {
			t.Fatalf("%q: %q, not %q", text, got, want.String())
		}
	}
	for text, want := range map[string]string{
		"": "", " # x": "", "add 2 to a(x);#end": "add 2to a(x);", " a  b ": "a b", "a = = b": "a= =b",
		"1 .. 3": "1..3", "a#x\nb": "a b", "A B": "A B", ". . .": ". . .", ".. .": "...", "( ( ) )": "(())",
	} {
		if got := lexer.Compact(text); got != want {
			t.Errorf("%q: %q, not %q", text, got, want)
		}
	}
}

func TestP2_4TokensCoverTheText(t *testing.T) {
	for _, text := range samples() {
		tokens, _ := lexer.Scan(text)
		end := 0
		for i, token := range tokens {
			if token.From != end || token.At < token.From || token.End < token.At {
				t.Fatalf("%q: token %v stands behind %d", text, token, end)
			}
			if last := i == len(tokens)-1; last != (token.Kind == api.TokenEnd) || last != (token.At == token.End) {
				t.Fatalf("%q: wrong end %v", text, token)
			}
			end = token.End
		}
		if end != len(text) {
			t.Fatalf("%q: the tokens end at %d", text, end)
		}
	}
}

// meaning returns the kinds and the words of a text.
func meaning(text string) ([]int, []string) {
	tokens, _ := lexer.Scan(text)
	var kinds []int
	for _, token := range tokens {
		kinds = append(kinds, token.Kind)
	}
	return kinds, lexer.Words(text)
}

func TestP2_4CompactKeepsTheTokens(t *testing.T) {
	for _, text := range samples() {
		kinds, words := meaning(text)
		compactKinds, compactWords := meaning(lexer.Compact(text))
		if !slices.Equal(kinds, compactKinds) || !slices.Equal(words, compactWords) {
			t.Fatalf("%q means something else than %q", lexer.Compact(text), text)
		}
		if again := lexer.Compact(lexer.Compact(text)); again != lexer.Compact(text) {
			t.Fatalf("%q is not compact", lexer.Compact(text))
		}
	}
}

func TestP2_4WhiteSpaceDoesNotMatter(t *testing.T) {
	for _, text := range samples() {
		kinds, words := meaning(text)
		for _, space := range []string{" ", "\t", "\n", "\r", "\r\n\r\n", "#\n", "# add = \xff\n ", " #a#b\n#c\n"} {
			otherKinds, otherWords := meaning(space + strings.Join(words, space) + space)
			if !slices.Equal(kinds, otherKinds) || !slices.Equal(words, otherWords) {
				t.Fatalf("%q changes %q", space, text)
			}
		}
	}
}

func TestRulesResultsAreNew(t *testing.T) {
	const text = "add 2 to a(x);"
	tokens, _ := lexer.Scan(text)
	words := lexer.Words(text)
	clear(tokens)
	clear(words)
	if again, _ := lexer.Scan(text); !slices.Equal(again, defined(text)) || !slices.Equal(lexer.Words(text), definedWords(text)) {
		t.Error("a changed result changes the next one")
	}
}
