package source_test

import (
	"fmt"
	"math"
	"slices"
	"strings"
	"testing"

	"confluent/source"
)

// texts returns all texts of at most length letters of an alphabet.
func texts(alphabet string, length int) []string {
	all, last := []string{""}, []string{""}
	for range length {
		var next []string
		for _, text := range last {
			for i := range len(alphabet) {
				next = append(next, text+alphabet[i:i+1])
			}
		}
		all, last = append(all, next...), next
	}
	return all
}

func small() []string { return texts("ab\r\n", 5) }

// position, content and excerpt follow the definitions of the chapter byte by byte.
func position(text string, at int) (int, int) {
	return strings.Count(text[:at], "\n") + 1, at - strings.LastIndex(text[:at], "\n")
}

func content(text string, line int) string {
	lines := strings.Split(text, "\n")
	if line == len(lines) {
		return lines[line-1]
	}
	return strings.TrimSuffix(lines[line-1], "\r")
}

func excerpt(text string, at, end int) []string {
	first, _ := position(text, at)
	last := first
	if end > at {
		last, _ = position(text, end-1)
	}
	width := len(fmt.Sprint(last))
	start := strings.LastIndex(text[:at], "\n") + 1
	var want []string
	for line := first; line <= last; line++ {
		body := content(text, line)
		front, any := "", false
		for i := range len(body) {
			switch {
			case start+i < at:
				front += " "
			case start+i < end:
				front += "^"
				any = true
			}
		}
		if !any {
			front = strings.Repeat(" ", max(at-start, 0)) + "^"
		}
		want = append(want, fmt.Sprintf("%*d | %s", width, line, body), strings.Repeat(" ", width+3)+front)
		start += len(strings.Split(text, "\n")[line-1]) + 1
	}
	return want
}

func TestP1_1LinesPositionsAndOffsets(t *testing.T) {
	for _, text := range small() {
		x := source.New(text)
		if got, want := x.Lines(), strings.Count(text, "\n")+1; got != want {
			t.Fatalf("%q has %d lines, not %d", text, got, want)
		}
		for at := range len(text) + 1 {
			line, column := position(text, at)
			if a, b := x.Position(at); a != line || b != column {
				t.Fatalf("%q: position of %d is %d, %d, not %d, %d", text, at, a, b, line, column)
			}
			if back, ok := x.Offset(line, column); back != at || !ok {
				t.Fatalf("%q: offset of %d, %d is %d, %v, not %d", text, line, column, back, ok, at)
			}
		}
	}
}

func TestP1_1Invalid(t *testing.T) {
	for _, text := range small() {
		x := source.New(text)
		for _, at := range []int{math.MinInt, -1, len(text) + 1, math.MaxInt} {
			if line, column := x.Position(at); line != 0 || column != 0 {
				t.Fatalf("%q: %d has position %d, %d", text, at, line, column)
			}
		}
		known := map[[2]int]bool{}
		for at := range len(text) + 1 {
			line, column := position(text, at)
			known[[2]int{line, column}] = true
		}
		numbers := []int{math.MinInt, -1, 0, 1, 2, 3, 4, 5, 6, 7, math.MaxInt - 1, math.MaxInt}
		for _, line := range numbers {
			for _, column := range numbers {
				if at, ok := x.Offset(line, column); ok != known[[2]int{line, column}] || !ok && at != 0 {
					t.Fatalf("%q: position %d, %d has offset %d, %v", text, line, column, at, ok)
				}
			}
		}
	}
}

func TestP1_2Content(t *testing.T) {
	for _, text := range small() {
		x := source.New(text)
		for line := 1; line <= x.Lines(); line++ {
			if got, want := x.Content(line), content(text, line); got != want {
				t.Fatalf("%q: line %d is %q, not %q", text, line, got, want)
			}
		}
		for _, line := range []int{math.MinInt, -1, 0, x.Lines() + 1, math.MaxInt} {
			if got := x.Content(line); got != "" {
				t.Fatalf("%q: line %d is %q", text, line, got)
			}
		}
	}
}

func TestP1_2CarriageReturns(t *testing.T) {
	x := source.New("a\r\r\n\r\nb\rc\nd\r")
	for line, want := range []string{1: "a\r", 2: "", 3: "b\rc", 4: "d\r"} {
		if got := x.Content(line); got != want {
			t.Errorf("line %d is %q, not %q", line, got, want)
		}
	}
}

func TestP1_3Excerpt(t *testing.T) {
	for _, text := range small() {
		x := source.New(text)
		for at := range len(text) + 1 {
			for end := at; end <= len(text); end++ {
				if got, want := x.Excerpt(at, end), excerpt(text, at, end); !slices.Equal(got, want) {
					t.Fatalf("%q: excerpt of %d to %d is %q, not %q", text, at, end, got, want)
				}
			}
		}
	}
}

func TestP1_3Examples(t *testing.T) {
	ten := strings.Repeat("\n", 8) + "xyz\n\tq\n"
	for _, c := range []struct {
		name, text string
		at, end    int
		want       []string
	}{
		{"example", "ab\ncd", 1, 4, []string{"1 | ab", "     ^", "2 | cd", "    ^"}},
		{"empty text", "", 0, 0, []string{"1 | ", "    ^"}},
		{"empty span in a line", "abc", 1, 1, []string{"1 | abc", "     ^"}},
		{"empty span at the end", "abc", 3, 3, []string{"1 | abc", "       ^"}},
		{"empty span behind the last line feed", "abc\n", 4, 4, []string{"2 | ", "    ^"}},
		{"line feed only", "abc\nd", 3, 4, []string{"1 | abc", "       ^"}},
		{"carriage return only", "abc\r\nd", 3, 4, []string{"1 | abc", "       ^"}},
		{"line feed behind a carriage return", "abc\r\nd", 4, 5, []string{"1 | abc", "        ^"}},
		{"carriage return of the last line", "abc\r", 3, 4, []string{"1 | abc\r", "       ^"}},
		{"line feed does not touch the next line", "abc\nd", 1, 4, []string{"1 | abc", "     ^^"}},
		{"empty line within", "ab\n\r\ncd", 1, 7, []string{"1 | ab", "     ^", "2 | ", "    ^", "3 | cd", "    ^^"}},
		{"numbers of one width", ten, 8, 11, []string{"9 | xyz", "    ^^^"}},
		{"numbers of two widths", ten, 9, 14, []string{" 9 | xyz", "      ^^", "10 | \tq", "     ^^"}},
		{"bytes, not runes", "\u00e9!", 2, 3, []string{"1 | \u00e9!", "      ^"}},
	} {
		t.Run(c.name, func(t *testing.T) {
			if got := source.New(c.text).Excerpt(c.at, c.end); !slices.Equal(got, c.want) {
				t.Errorf("got %q, want %q", got, c.want)
			}
		})
	}
}

func TestP1_3Invalid(t *testing.T) {
	x := source.New("ab\ncd")
	for _, span := range [][2]int{{-1, 0}, {-1, -1}, {2, 1}, {0, 6}, {6, 6}, {5, 4}, {math.MinInt, math.MaxInt}, {math.MaxInt, math.MinInt}, {0, math.MaxInt}, {0, math.MinInt}} {
		if got := x.Excerpt(span[0], span[1]); len(got) > 0 {
			t.Errorf("span %v has an excerpt: %q", span, got)
		}
	}
}

func TestP1_4PositionsIncrease(t *testing.T) {
	for _, text := range small() {
		x := source.New(text)
		for at := 1; at <= len(text); at++ {
			line, column := x.Position(at - 1)
			nextLine, nextColumn := x.Position(at)
			if !(nextLine > line || nextLine == line && nextColumn > column) {
				t.Fatalf("%q: the position of %d is not behind that of %d", text, at, at-1)
			}
		}
	}
}

func TestP1_4ContentsAreTheText(t *testing.T) {
	for _, text := range texts("ab\n", 6) {
		x := source.New(text)
		var contents []string
		for line := 1; line <= x.Lines(); line++ {
			contents = append(contents, x.Content(line))
		}
		if got := strings.Join(contents, "\n"); got != text {
			t.Fatalf("the contents of %q are %q", text, got)
		}
	}
}

// shown returns the offsets above the marks of an excerpt.
func shown(x *source.Index, lines []string) map[int]int {
	count := map[int]int{}
	for i := 0; i+1 < len(lines); i += 2 {
		number, body, _ := strings.Cut(lines[i], " | ")
		var line int
		fmt.Sscan(number, &line)
		for j := range len(lines[i+1]) {
			column := j - len(number) - 3 + 1
			if at, ok := x.Offset(line, column); ok && column <= len(body) && lines[i+1][j] == '^' {
				count[at]++
			}
		}
	}
	return count
}

func TestP1_4EachByteIsShownOnce(t *testing.T) {
	for _, text := range small() {
		x := source.New(text)
		for at := range len(text) + 1 {
			for end := at; end <= len(text); end++ {
				count := shown(x, x.Excerpt(at, end))
				for i := at; i < end; i++ {
					line, column := x.Position(i)
					if column <= len(x.Content(line)) && count[i] != 1 {
						t.Fatalf("%q: the excerpt of %d to %d shows %d %d times", text, at, end, i, count[i])
					}
				}
			}
		}
	}
}

func TestP1ManyLines(t *testing.T) {
	const lines = 200000
	text := strings.Repeat("abcd\n", lines)
	x := source.New(text)
	if x.Lines() != lines+1 {
		t.Fatal(x.Lines())
	}
	for at := 0; at <= len(text); at++ {
		if line, column := x.Position(at); line != at/5+1 || column != at%5+1 {
			t.Fatal(at, line, column)
		}
	}
	if got := x.Excerpt(0, len(text)); len(got) != 2*lines || got[1] != "         ^^^^" || got[2*lines-1] != got[1] {
		t.Error(len(got))
	}
}

func TestP1ZeroIndex(t *testing.T) {
	var x source.Index
	if line, column := x.Position(0); x.Lines() != 1 || line != 1 || column != 1 || x.Content(1) != "" {
		t.Error(x.Lines(), line, column)
	}
	if got := x.Excerpt(0, 0); !slices.Equal(got, []string{"1 | ", "    ^"}) {
		t.Errorf("%q", got)
	}
}

func TestRulesResultsAreNew(t *testing.T) {
	x := source.New("ab\ncd")
	first := x.Excerpt(0, 5)
	want := slices.Clone(first)
	clear(first)
	if got := x.Excerpt(0, 5); !slices.Equal(got, want) {
		t.Errorf("a changed result changes the next one: %q", got)
	}
	if a, b := source.New("ab\ncd"), source.New("xy"); a == b || a == x || a.Lines() != 2 || b.Lines() != 1 || x.Lines() != 2 {
		t.Error("indices are shared")
	}
}
