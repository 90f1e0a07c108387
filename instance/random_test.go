package instance_test

import (
	"fmt"
	"math/rand"
	"slices"
	"strings"
	"testing"

	"confluent/api"
	"confluent/checker"
	"confluent/instance"
)

// values are the values of variables by their names.
type values map[string]int

// formula is the text of an expression with its meaning.
type formula struct {
	text  string
	value func(v values) int
}

// statement is the text of a statement that is no for, or a for. Its formula, if there is one, is what it requires, or what stands behind where.
type statement struct {
	text     string
	formula  *formula
	variable string
	sort     string
	block    []statement
}

var sizes = map[string]int{"s": 2, "t": 3, "one": 1}

const tables = "sort s 2; sort one 1; sort t 3; counter c() in 0..9; set m(a: t) addwins; "

// author makes random statements, with the variables that are visible by their sorts ("" for numbers).
type author struct {
	random  *rand.Rand
	visible map[string][]string
	names   int
}

func (a *author) pick(texts ...string) string { return texts[a.random.Intn(len(texts))] }

func truth(b bool) int {
	if b {
		return 1
	}
	return 0
}

var meanings = map[string]func(a, b int) int{
	"+": func(a, b int) int { return a + b }, "-": func(a, b int) int { return a - b }, "*": func(a, b int) int { return a * b },
	"and": func(a, b int) int { return a & b }, "or": func(a, b int) int { return a | b },
	"==": func(a, b int) int { return truth(a == b) }, "!=": func(a, b int) int { return truth(a != b) },
	"<": func(a, b int) int { return truth(a < b) }, "<=": func(a, b int) int { return truth(a <= b) }, ">": func(a, b int) int { return truth(a > b) }, ">=": func(a, b int) int { return truth(a >= b) },
}

func binary(operator string, a, b formula) formula {
	return formula{"(" + a.text + " " + operator + " " + b.text + ")", func(v values) int { return meanings[operator](a.value(v), b.value(v)) }}
}

func constant(n int) formula {
	return formula{fmt.Sprint(n), func(values) int { return n }}
}

// operand returns a variable of a sort, or a number below a limit.
func (a *author) operand(sort string, limit int) formula {
	if names := a.visible[sort]; len(names) > 0 && a.random.Intn(4) > 0 {
		name := a.pick(names...)
		return formula{name, func(v values) int { return v[name] }}
	}
	return constant(a.random.Intn(limit))
}

func (a *author) number(levels int) formula {
	if levels == 0 || a.random.Intn(3) == 0 {
		return a.operand("", 4)
	}
	if a.random.Intn(5) == 0 {
		inner := a.number(levels - 1)
		return formula{"-" + inner.text, func(v values) int { return -inner.value(v) }}
	}
	return binary(a.pick("+", "-", "*"), a.number(levels-1), a.number(levels-1))
}

func (a *author) condition(levels int) formula {
	sort := a.pick("s", "t", "one", "")
	switch choice := a.random.Intn(6); {
	case levels > 0 && choice < 2:
		return binary(a.pick("and", "or", "or"), a.condition(levels-1), a.condition(levels-1))
	case levels > 0 && choice == 2:
		inner := a.condition(levels - 1)
		return formula{"not " + inner.text, func(v values) int { return 1 - inner.value(v) }}
	case len(a.visible[sort]) == 0:
		return binary(a.pick("<", "<=", ">", ">=", "==", "!="), a.number(2), a.number(2))
	}
	return binary(a.pick("==", "!="), a.operand(sort, sizes[sort]+3*truth(sort == "")), a.operand(sort, sizes[sort]+3*truth(sort == "")))
}

func (a *author) statement(levels int) statement {
	switch choice := a.random.Intn(5); {
	case choice == 0:
		return statement{text: a.pick("add 2 to c();", "put m(1);", "drop m(0);", "hold c() <= 7;")}
	case choice < 3 || levels == 0:
		f := a.condition(2)
		return statement{text: "require " + f.text + ";", formula: &f}
	}
	a.names++
	loop := statement{variable: fmt.Sprint("x", a.names), sort: a.pick("s", "t", "one")}
	outer := a.visible[loop.sort]
	a.visible[loop.sort] = append(slices.Clone(outer), loop.variable)
	if a.random.Intn(3) > 0 {
		f := a.condition(1)
		loop.formula = &f
	}
	loop.block = a.block(levels - 1)
	a.visible[loop.sort] = outer
	return loop
}

func (a *author) block(levels int) []statement {
	var block []statement
	for range a.random.Intn(3) {
		block = append(block, a.statement(levels))
	}
	return block
}

// write returns the text of a block.
func write(block []statement) string {
	var text strings.Builder
	text.WriteString("{ ")
	for _, s := range block {
		text.WriteString(s.text)
		if s.variable != "" {
			text.WriteString("for " + s.variable + ": " + s.sort)
			if s.formula != nil {
				text.WriteString(" where " + s.formula.text)
			}
			text.WriteString(" " + write(s.block))
		}
		text.WriteString(" ")
	}
	return text.String() + "}"
}

// demands reports whether all that a block requires is true.
func demands(block []statement, v values) bool {
	all := true
	for _, s := range block {
		if s.variable == "" {
			all = all && (s.formula == nil || s.formula.value(v) == 1)
			continue
		}
		for element := range sizes[s.sort] {
			v[s.variable] = element
			if s.formula == nil || s.formula.value(v) == 1 {
				all = all && demands(s.block, v)
			}
		}
		delete(v, s.variable)
	}
	return all
}

func compile(t *testing.T, text string) api.Program {
	t.Helper()
	p, wrong, e := checker.Check(text)
	if e != api.OK || len(wrong) > 0 {
		t.Fatalf("%s is not accepted: %v, %d", text, wrong, e)
	}
	return p
}

// shape is the parameters of an operation, with the values of each.
type shape struct {
	text    string
	visible map[string][]string
	names   []string
	values  [][]int
}

func shapes() []shape {
	s, u, numbers := []int{0, 1}, []int{0, 1, 2}, []int{-2, -1, 0, 1}
	return []shape{
		{"()", map[string][]string{}, nil, nil},
		{"(p: s)", map[string][]string{"s": {"p"}}, []string{"p"}, [][]int{s}},
		{"(n in -2..1, u: t)", map[string][]string{"": {"n"}, "t": {"u"}}, []string{"n", "u"}, [][]int{numbers, u}},
		{"(p: t, q: t, r: s)", map[string][]string{"s": {"r"}, "t": {"p", "q"}}, []string{"p", "q", "r"}, [][]int{u, u, s}},
		{"(p: s, n in 0..0, m in -2..1) ordered", map[string][]string{"s": {"p"}, "": {"n", "m"}}, []string{"p", "n", "m"}, [][]int{s, {0}, numbers}},
	}
}

// products returns all lists with one of the values for each place, in lexicographic order.
func products(places [][]int) [][]int {
	all := [][]int{{}}
	for _, place := range places {
		var longer [][]int
		for _, list := range all {
			for _, value := range place {
				longer = append(longer, append(slices.Clone(list), value))
			}
		}
		all = longer
	}
	return all
}

// enabledByDefinition returns the arguments for which all that a block requires is true.
func enabledByDefinition(s shape, block []statement) [][]int {
	var want [][]int
	for _, arguments := range products(s.values) {
		v := values{}
		for i, name := range s.names {
			v[name] = arguments[i]
		}
		if demands(block, v) {
			want = append(want, arguments)
		}
	}
	return want
}

func same(a, b [][]int) bool { return slices.EqualFunc(a, b, slices.Equal) }

func contains(all [][]int, list []int) bool {
	return slices.ContainsFunc(all, func(other []int) bool { return slices.Equal(other, list) })
}

// accepted reports whether an operation does not have too many statements.
func accepted(s shape, block []statement) bool {
	_, wrong, _ := checker.Check(tables + "operation o" + s.text + " " + write(block))
	return len(wrong) == 0 || wrong[0].Code != api.DiagMany
}

// forRandom calls check with random operations.
func forRandom(check func(a *author, s shape, block []statement)) {
	a := &author{random: rand.New(rand.NewSource(1))}
	for range 60 {
		for _, s := range shapes() {
			a.visible = s.visible
			block := a.block(3)
			for !accepted(s, block) {
				block = a.block(3)
			}
			check(a, s, block)
		}
	}
}

func TestP10_2Random(t *testing.T) {
	counts := map[string]int{}
	forRandom(func(_ *author, s shape, block []statement) {
		text := tables + "operation before(z in 5..6) { require z == 6; } operation o" + s.text + " " + write(block)
		p := compile(t, text)
		want := enabledByDefinition(s, block)
		if got := instance.All(p, 1); !same(got, want) {
			t.Fatalf("%s\nenables %v, not %v", text, got, want)
		}
		domain := instance.Domain(p, 1)
		if !same(domain, products(s.values)) {
			t.Fatalf("%s\nhas the domain %v", text, domain)
		}
		for _, arguments := range domain {
			if got, e := instance.Enabled(p, 1, arguments); got != contains(want, arguments) || e != api.OK {
				t.Fatalf("%s\n%v is enabled: %v, %d", text, arguments, got, e)
			}
		}
		switch len(want) {
		case 0:
			counts["none"]++
		case len(domain):
			counts["all"]++
		default:
			counts["some"]++
		}
	})
	if counts["none"] < 20 || counts["some"] < 20 || counts["all"] < 20 {
		t.Error("the random operations are too similar:", counts)
	}
}

// shuffled returns a block with its statements, and those of its blocks, in another order.
func (a *author) shuffled(block []statement) []statement {
	block = slices.Clone(block)
	a.random.Shuffle(len(block), func(i, k int) { block[i], block[k] = block[k], block[i] })
	for i := range block {
		block[i].block = a.shuffled(block[i].block)
	}
	return block
}

// longer returns a block with a further require statement in a random place.
func (a *author) longer(block []statement) []statement {
	block = slices.Clone(block)
	for i, s := range block {
		if s.variable != "" && a.random.Intn(2) == 0 {
			outer := a.visible[s.sort]
			a.visible[s.sort] = append(slices.Clone(outer), s.variable)
			block[i].block = a.longer(s.block)
			a.visible[s.sort] = outer
			return block
		}
	}
	f := a.condition(2)
	return slices.Insert(block, a.random.Intn(len(block)+1), statement{text: "require " + f.text + ";", formula: &f})
}

func TestP10_4Statements(t *testing.T) {
	forRandom(func(a *author, s shape, block []statement) {
		p := compile(t, tables+"operation o"+s.text+" "+write(block))
		q := compile(t, tables+"operation o"+s.text+" "+write(a.shuffled(block)))
		all := instance.All(p, 0)
		if other := instance.All(q, 0); !same(other, all) {
			t.Fatalf("in another order %s enables %v, not %v", write(block), other, all)
		}
		more := a.longer(block)
		for _, arguments := range instance.All(compile(t, tables+"operation o"+s.text+" "+write(more)), 0) {
			if !contains(all, arguments) {
				t.Fatalf("%s enables %v, but %s does not", write(more), arguments, write(block))
			}
		}
	})
}
