package effect_test

import (
	"fmt"
	"math/rand"
	"slices"
	"strings"
	"testing"

	"confluent/api"
	"confluent/effect"
	"confluent/instance"
)

const tables = "sort s 2; sort t 3; set m(a: t) addwins; relation r(a: s); register g(a: s) in -99..99 last; counter c(a: t, b: s) in -9..9; " +
	"set n() removewins; relation e(a: t, b: t); register h() in -999..999 multi; counter k() in 0..9; "

// place is the columns of a table and its first cell.
type place struct {
	columns []string
	first   int
}

var sizes = map[string]int{"s": 2, "t": 3}

var places = map[string]place{
	"r": {[]string{"s"}, 0}, "c": {[]string{"t", "s"}, 2}, "e": {[]string{"t", "t"}, 8}, "k": {nil, 17},
	"m": {[]string{"t"}, 0}, "g": {[]string{"s"}, 3}, "n": {nil, 5}, "h": {nil, 6},
}

const strictCells = 18

// values are the values of variables by their names.
type values map[string]int

// formula is the text of an expression, of a cell or of a condition with its meaning.
type formula struct {
	text  string
	value func(v values) int
}

// outcome is what statements have done.
type outcome struct {
	delta   map[int]int
	hold    []api.Row
	updates map[int]api.Update
}

// statement is the text of a statement that is no for, with what it does, or a for.
type statement struct {
	text      string
	do        func(v values, o *outcome)
	variable  string
	sort      string
	condition *formula
	block     []statement
}

// author makes random statements, with the variables that are visible by their sorts ("" for numbers).
type author struct {
	random  *rand.Rand
	visible map[string][]string
	names   int
}

func (a *author) pick(texts ...string) string { return texts[a.random.Intn(len(texts))] }

// operand returns a variable of a sort, or a number below a limit.
func (a *author) operand(sort string, limit int) formula {
	if names := a.visible[sort]; len(names) > 0 && a.random.Intn(4) > 0 {
		name := a.pick(names...)
		return formula{name, func(v values) int { return v[name] }}
	}
	n := a.random.Intn(limit)
	return formula{fmt.Sprint(n), func(values) int { return n }}
}

func (a *author) number(levels int) formula {
	if levels == 0 || a.random.Intn(3) == 0 {
		return a.operand("", 4)
	}
	left, right := a.number(levels-1), a.number(levels-1)
	switch a.random.Intn(4) {
	case 0:
		return formula{"(" + left.text + " + " + right.text + ")", func(v values) int { return left.value(v) + right.value(v) }}
	case 1:
		return formula{"(" + left.text + " - " + right.text + ")", func(v values) int { return left.value(v) - right.value(v) }}
	case 2:
		return formula{"(" + left.text + " * " + right.text + ")", func(v values) int { return left.value(v) * right.value(v) }}
	}
	return formula{"-" + left.text, func(v values) int { return -left.value(v) }}
}

func (a *author) condition() formula {
	sort := a.pick("s", "t")
	left, right := a.operand(sort, 2), a.operand(sort, 2)
	if len(a.visible[sort]) == 0 || a.random.Intn(3) == 0 {
		left, right = a.number(1), a.number(1)
	}
	if a.random.Intn(2) == 0 {
		return formula{left.text + " == " + right.text, func(v values) int { return truth(left.value(v) == right.value(v)) }}
	}
	return formula{left.text + " != " + right.text, func(v values) int { return truth(left.value(v) != right.value(v)) }}
}

func truth(b bool) int {
	if b {
		return 1
	}
	return 0
}

func (a *author) cell(table string) formula {
	p := places[table]
	var arguments []formula
	var texts []string
	for _, sort := range p.columns {
		arguments = append(arguments, a.operand(sort, sizes[sort]))
		texts = append(texts, arguments[len(arguments)-1].text)
	}
	return formula{table + "(" + strings.Join(texts, ", ") + ")", func(v values) int {
		position := 0
		for i, argument := range arguments {
			position = position*sizes[p.columns[i]] + argument.value(v)
		}
		return p.first + position
	}}
}

// with calls make with further variables of some sorts, and returns these.
func (a *author) with(sorts []string, make func()) []string {
	outer := a.visible
	a.visible = map[string][]string{}
	for sort, names := range outer {
		a.visible[sort] = slices.Clone(names)
	}
	var added []string
	for _, sort := range sorts {
		a.names++
		added = append(added, fmt.Sprint("x", a.names))
		a.visible[sort] = append(a.visible[sort], added[len(added)-1])
	}
	make()
	a.visible = outer
	return added
}

// each calls do with the values of variables of some sorts.
func each(v values, names, sorts []string, do func()) {
	if len(names) == 0 {
		do()
		return
	}
	for element := range sizes[sorts[0]] {
		v[names[0]] = element
		each(v, names[1:], sorts[1:], do)
	}
	delete(v, names[0])
}

// term is the text of a term without its sign, with what it adds to the factors of cells.
type term struct {
	text string
	add  func(v values, sign int, factors *[strictCells]int)
}

func (a *author) term() term {
	factor, text := 1, ""
	if a.random.Intn(2) == 0 {
		factor = 1 + a.random.Intn(3)
		text = fmt.Sprint(factor, " * ")
	}
	var sorts []string
	for range a.random.Intn(3) {
		sorts = append(sorts, a.pick("s", "t"))
	}
	var cell formula
	names := a.with(sorts, func() { cell = a.cell(a.pick("r", "c", "e", "k")) })
	if len(names) > 0 {
		var columns []string
		for i, name := range names {
			columns = append(columns, name+": "+sorts[i])
		}
		text += "sum(" + strings.Join(columns, ", ") + ") "
	}
	return term{text + cell.text, func(v values, sign int, factors *[strictCells]int) {
		each(v, names, sorts, func() { factors[cell.value(v)] += sign * factor })
	}}
}

// total is the text of a total with its terms.
type total struct {
	text  string
	terms func(v values, sign int) []api.Term
}

func (a *author) total() total {
	var terms []term
	var signs []int
	var text strings.Builder
	for i := range 1 + a.random.Intn(3) {
		t, sign := a.term(), 1-2*a.random.Intn(2)
		terms, signs = append(terms, t), append(signs, sign)
		switch {
		case sign < 0:
			text.WriteString(" - ")
		case i > 0:
			text.WriteString(" + ")
		}
		text.WriteString(t.text)
	}
	return total{text.String(), func(v values, sign int) []api.Term {
		var factors [strictCells]int
		for i, t := range terms {
			t.add(v, sign*signs[i], &factors)
		}
		var all []api.Term
		for cell, factor := range factors {
			if factor != 0 {
				all = append(all, api.Term{Cell: cell, Factor: factor})
			}
		}
		return all
	}}
}

func (a *author) hold() statement {
	t, bound := a.total(), a.number(2)
	symbol, sign := "<=", 1
	if a.random.Intn(2) == 0 {
		symbol, sign = ">=", -1
	}
	return statement{text: "hold " + t.text + " " + symbol + " " + bound.text + ";", do: func(v values, o *outcome) {
		o.hold = append(o.hold, api.Row{Terms: t.terms(v, sign), Bound: sign * bound.value(v)})
	}}
}

func (a *author) change() statement {
	if a.random.Intn(2) == 0 {
		add, cell := a.number(2), a.cell(a.pick("c", "k"))
		return statement{text: "add " + add.text + " to " + cell.text + ";", do: func(v values, o *outcome) { o.delta[cell.value(v)] += add.value(v) }}
	}
	cell := a.cell(a.pick("r", "e"))
	if a.random.Intn(2) == 0 {
		return statement{text: "insert " + cell.text + ";", do: func(v values, o *outcome) { o.delta[cell.value(v)]++ }}
	}
	return statement{text: "delete " + cell.text + ";", do: func(v values, o *outcome) { o.delta[cell.value(v)]-- }}
}

func (a *author) update() statement {
	if a.random.Intn(2) == 0 {
		cell, value := a.cell(a.pick("g", "h")), a.number(2)
		return statement{text: "assign " + cell.text + " = " + value.text + ";", do: func(v values, o *outcome) {
			o.updates[cell.value(v)] = api.Update{Kind: api.UpdateAssign, Cell: cell.value(v), Value: value.value(v)}
		}}
	}
	cell, word, kind := a.cell(a.pick("m", "n")), "put", api.UpdatePut
	if a.random.Intn(2) == 0 {
		word, kind = "drop", api.UpdateDrop
	}
	return statement{text: word + " " + cell.text + ";", do: func(v values, o *outcome) {
		o.updates[cell.value(v)] = api.Update{Kind: kind, Cell: cell.value(v)}
	}}
}

func (a *author) statement(levels int) statement {
	switch choice := a.random.Intn(9); {
	case choice == 0:
		f := a.condition()
		return statement{text: "require " + f.text + " or 1 == 1;", do: func(values, *outcome) {}}
	case choice == 1:
		return a.hold()
	case choice < 4:
		return a.update()
	case choice < 7 || levels == 0:
		return a.change()
	}
	loop := statement{sort: a.pick("s", "t")}
	names := a.with([]string{loop.sort}, func() {
		if a.random.Intn(3) > 0 {
			f := a.condition()
			loop.condition = &f
		}
		loop.block = a.block(levels - 1)
	})
	loop.variable = names[0]
	return loop
}

func (a *author) block(levels int) []statement {
	var block []statement
	for range 1 + a.random.Intn(4) {
		block = append(block, a.statement(levels))
	}
	return block
}

// write returns the text of a block.
func write(block []statement) string {
	var text strings.Builder
	text.WriteString("{ ")
	for _, s := range block {
		text.WriteString(s.text)
		if s.variable != "" {
			text.WriteString("for " + s.variable + ": " + s.sort)
			if s.condition != nil {
				text.WriteString(" where " + s.condition.text)
			}
			text.WriteString(" " + write(s.block))
		}
		text.WriteString(" ")
	}
	return text.String() + "}"
}

// run does what a block says.
func run(block []statement, v values, o *outcome) {
	for _, s := range block {
		if s.variable == "" {
			s.do(v, o)
			continue
		}
		each(v, []string{s.variable}, []string{s.sort}, func() {
			if s.condition == nil || s.condition.value(v) == 1 {
				run(s.block, v, o)
			}
		})
	}
}

// byDefinition returns the effect of a block.
func byDefinition(block []statement, v values) api.Effect {
	o := &outcome{delta: map[int]int{}, updates: map[int]api.Update{}}
	run(block, v, o)
	f := api.Effect{Hold: o.hold}
	for cell := range strictCells {
		if add := o.delta[cell]; add != 0 {
			f.Delta = append(f.Delta, api.Change{Cell: cell, Add: add})
		}
	}
	for cell := range 7 {
		if u, ok := o.updates[cell]; ok {
			f.Updates = append(f.Updates, u)
		}
	}
	return f
}

func sameRows(a, b api.Row) bool { return a.Bound == b.Bound && slices.Equal(a.Terms, b.Terms) }

func same(a, b api.Effect) bool {
	return slices.Equal(a.Delta, b.Delta) && slices.EqualFunc(a.Hold, b.Hold, sameRows) && slices.Equal(a.Updates, b.Updates)
}

// forRandom calls check with random operations: the parameters of each, the names of these and its block.
func forRandom(check func(a *author, parameters string, names []string, block []statement)) {
	a := &author{random: rand.New(rand.NewSource(1))}
	for range 40 {
		for _, shape := range []struct {
			parameters string
			visible    map[string][]string
			names      []string
		}{
			{"()", map[string][]string{}, nil},
			{"(p: s, q: t)", map[string][]string{"s": {"p"}, "t": {"q"}}, []string{"p", "q"}},
			{"(n in -2..1, p: t, q: t)", map[string][]string{"": {"n"}, "t": {"p", "q"}}, []string{"n", "p", "q"}},
		} {
			a.visible = shape.visible
			block := a.block(2)
			for !accepted(tables + "operation o" + shape.parameters + write(block)) {
				block = a.block(2)
			}
			check(a, shape.parameters, shape.names, block)
		}
	}
}

func named(names []string, arguments []int) values {
	v := values{}
	for i, name := range names {
		v[name] = arguments[i]
	}
	return v
}

func TestP11_1Random(t *testing.T) {
	counts := map[string]int{}
	forRandom(func(_ *author, parameters string, names []string, block []statement) {
		text := tables + "operation before() { insert r(0); } operation o" + parameters + " " + write(block)
		p := compile(t, text)
		for _, arguments := range instance.Domain(p, 1) {
			want := byDefinition(block, named(names, arguments))
			got, e := effect.Of(p, 1, arguments)
			if e != api.OK || !same(got, want) {
				t.Fatalf("%s\nwith %v has the effect %v, %d, not %v", text, arguments, got, e, want)
			}
			counts["delta"] += len(got.Delta)
			counts["hold"] += len(got.Hold)
			counts["updates"] += len(got.Updates)
			// P11.4
			if len(got.Hold) > api.MaxHold || len(got.Updates) > api.MaxUpdates {
				t.Fatalf("%s\nhas an effect that is too great", text)
			}
		}
	})
	if counts["delta"] < 500 || counts["hold"] < 500 || counts["updates"] < 500 {
		t.Error("the random operations do too little:", counts)
	}
}

// shuffled returns a block with its statements, and those of its blocks, in another order.
func (a *author) shuffled(block []statement) []statement {
	block = slices.Clone(block)
	a.random.Shuffle(len(block), func(i, k int) { block[i], block[k] = block[k], block[i] })
	for i := range block {
		block[i].block = a.shuffled(block[i].block)
	}
	return block
}

func TestP11_4Statements(t *testing.T) {
	forRandom(func(a *author, parameters string, _ []string, block []statement) {
		p := compile(t, tables+"operation o"+parameters+" "+write(block))
		q := compile(t, tables+"operation o"+parameters+" "+write(a.shuffled(block)))
		cell := a.cell("e").text
		both := slices.Insert(slices.Clone(block), a.random.Intn(len(block)+1), statement{text: "insert " + cell + "; delete " + cell + ";"})
		r := compile(t, tables+"operation o"+parameters+" "+write(both))
		for _, arguments := range instance.Domain(p, 0) {
			want, _ := effect.Of(p, 0, arguments)
			if got, _ := effect.Of(q, 0, arguments); !slices.Equal(got.Delta, want.Delta) {
				t.Fatalf("%s %v in another order changes %v, not %v", write(block), arguments, got.Delta, want.Delta)
			}
			if got, _ := effect.Of(r, 0, arguments); !same(got, want) {
				t.Fatalf("%s %v has the effect %v, not %v", write(both), arguments, got, want)
			}
		}
	})
}

func TestP11_2Random(t *testing.T) {
	a := &author{random: rand.New(rand.NewSource(2)), visible: map[string][]string{"s": {"p"}, "t": {"q", "u"}}}
	for range 100 {
		total := a.total()
		text := tables + "invariant i: all(p: s, q: t, u: t) " + total.text + " <= 5;"
		if !accepted(text) {
			continue
		}
		p := compile(t, text)
		number := only(t, p.Tree, api.NodeTotal)
		v := values{"p": a.random.Intn(2), "q": a.random.Intn(3), "u": a.random.Intn(3)}
		got, e := effect.Terms(p, number, []api.Variable{{Name: "u", Value: v["u"]}, {Name: "p", Value: v["p"]}, {Name: "q", Value: v["q"]}})
		if want := total.terms(v, 1); e != api.OK || !slices.Equal(got, want) {
			t.Fatalf("%s\nfor %v has the terms %v, %d, not %v", text, v, got, e, want)
		}
	}
}
