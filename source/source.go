// Package source is layer 1: it computes with lines, columns and spans of a text, and writes excerpts of it. See shared/doc/01-source.md.
package source

import (
	"sort"
	"strconv"
	"strings"
)

// Index knows where the lines of a text are. The zero value is the index of the empty text.
type Index struct {
	text  string
	feeds []int // the offsets of the line feeds, increasing
}

// New returns the index of a text.
func New(text string) *Index {
	feeds := make([]int, 0, strings.Count(text, "\n"))
	for at := range len(text) {
		if text[at] == '\n' {
			feeds = append(feeds, at)
		}
	}
	return &Index{text: text, feeds: feeds}
}

// Lines returns the number of lines.
func (x *Index) Lines() int { return len(x.feeds) + 1 }

// Position returns the line and the column of an offset, or 0 and 0 if the text does not have it.
func (x *Index) Position(at int) (int, int) {
	if at < 0 || at > len(x.text) {
		return 0, 0
	}
	line := x.line(at)
	return line, at - x.start(line) + 1
}

// Offset returns the offset with a position, and whether the text has it.
func (x *Index) Offset(line, column int) (int, bool) {
	if !x.has(line) {
		return 0, false
	}
	start, end := x.start(line), x.end(line)
	if column < 1 || column > end-start+1 {
		return 0, false
	}
	return start + column - 1, true
}

// Content returns the bytes of a line without what ends it.
func (x *Index) Content(line int) string {
	if !x.has(line) {
		return ""
	}
	content := x.text[x.start(line):x.end(line)]
	if line < x.Lines() {
		content = strings.TrimSuffix(content, "\r")
	}
	return content
}

// Excerpt returns the lines that the span from at to end touches, each with a line of marks below it.
func (x *Index) Excerpt(at, end int) []string {
	if at < 0 || at > end || end > len(x.text) {
		return nil
	}
	first, last := x.line(at), x.line(max(at, end-1))
	digits := len(strconv.Itoa(last))
	excerpt := make([]string, 0, 2*(last-first+1))
	for line := first; line <= last; line++ {
		start, content := x.start(line), x.Content(line)
		front := margin(line, digits)
		below := strings.Repeat(" ", len(front)) + marks(at-start, end-start, len(content))
		excerpt = append(excerpt, front+content, below)
	}
	return excerpt
}

// margin returns what stands in front of the content of a line.
func margin(line, digits int) string {
	number := strconv.Itoa(line)
	return strings.Repeat(" ", digits-len(number)) + number + " | "
}

// marks returns the blanks and marks below a content of length bytes, for a span whose offsets are relative to the start of the line.
// There is one mark even if the span contains nothing of the content, so that each line that is touched shows where.
func marks(at, end, length int) string {
	blanks := max(at, 0)
	carets := max(min(end, length)-blanks, 1)
	return strings.Repeat(" ", blanks) + strings.Repeat("^", carets)
}

// has reports whether the text has a line.
func (x *Index) has(line int) bool { return line >= 1 && line <= x.Lines() }

// line returns the line of an offset of the text.
func (x *Index) line(at int) int { return firstEnding(x.Lines(), at, x.end) }

// start returns the offset at which a line begins.
func (x *Index) start(line int) int {
	if line == 1 {
		return 0
	}
	return x.end(line-1) + 1
}

// end returns the offset of the line feed of a line, or, for the last line, the end of the text.
func (x *Index) end(line int) int {
	if line == x.Lines() {
		return len(x.text)
	}
	return x.feeds[line-1]
}

// firstEnding returns the first of so many lines whose end is not in front of an offset. The ends increase.
func firstEnding(lines, at int, end func(line int) int) int {
	return 1 + sort.Search(lines-1, func(i int) bool { return end(i+1) >= at })
}
