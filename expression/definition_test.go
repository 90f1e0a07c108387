package expression_test

import (
	"math/rand"
	"slices"
	"strconv"
	"testing"

	"confluent/api"
	"confluent/expression"
)

// author makes random expressions. Of 100 operands so many are of any type.
type author struct {
	random *rand.Rand
	errors int
}

func (a *author) pick(texts ...string) string { return texts[a.random.Intn(len(texts))] }

func (a *author) node(kind int, text string, kids ...api.Node) api.Node {
	return api.Node{Kind: kind, Text: text, Kids: kids}
}

// expression returns an expression of a type, often at least.
func (a *author) expression(kind, levels int) api.Node {
	if a.random.Intn(100) < a.errors {
		kind = a.random.Intn(4) - 2
	}
	switch {
	case kind >= 0:
		return a.node(api.NodeName, [][]string{{"p", "q"}, {"u", "v"}}[kind][a.random.Intn(2)])
	case kind == api.TypeInt:
		return a.number(levels)
	}
	return a.bool(levels)
}

func (a *author) number(levels int) api.Node {
	switch choice := a.random.Intn(6); {
	case levels <= 1 && choice < 3:
		return a.node(api.NodeName, a.pick("n", "m", "k", "z"))
	case levels <= 1:
		return a.node(api.NodeNumber, strconv.Itoa(a.random.Intn(10)*[]int{1, 1, 111}[a.random.Intn(3)]))
	case choice == 0:
		return a.node(api.NodeUnary, "-", a.expression(api.TypeInt, levels-1))
	}
	return a.node(api.NodeBinary, a.pick("+", "-", "*"), a.expression(api.TypeInt, a.random.Intn(levels)), a.expression(api.TypeInt, levels-1))
}

func (a *author) bool(levels int) api.Node {
	choice := a.random.Intn(6)
	switch {
	case levels > 2 && choice == 0:
		return a.node(api.NodeUnary, "not", a.expression(api.TypeBool, levels-1))
	case levels > 2 && choice < 4:
		return a.node(api.NodeBinary, a.pick("and", "or"), a.expression(api.TypeBool, a.random.Intn(levels)), a.expression(api.TypeBool, levels-1))
	case choice == 4:
		kind := a.random.Intn(2)
		l := []api.Node{a.expression(kind, 1), a.expression(kind, 1)}
		if a.random.Intn(2) == 0 {
			l[a.random.Intn(2)] = a.node(api.NodeNumber, strconv.Itoa(a.random.Intn(2+kind)))
		}
		return a.node(api.NodeBinary, a.pick("==", "!="), l...)
	}
	return a.node(api.NodeBinary, a.pick("==", "!=", "<", "<=", ">", ">="), a.expression(api.TypeInt, levels-1), a.expression(api.TypeInt, a.random.Intn(max(levels, 1))))
}

// placed returns a tree whose nodes have their numbers as At.
func placed(n api.Node) api.Node {
	number := -1
	var place func(n api.Node) api.Node
	place = func(n api.Node) api.Node {
		number++
		n.At, n.End = number, number+1000
		n.Kids = slices.Clone(n.Kids)
		for i := range n.Kids {
			n.Kids[i] = place(n.Kids[i])
		}
		return n
	}
	return place(n)
}

var (
	fewSorts = []api.Sort{{Name: "s", Size: 2}, {Name: "t", Size: 3}}
	few      = []api.Variable{elements("p", 0), elements("q", 0), elements("u", 1), elements("v", 1), ints("n", 1, 3), ints("m", -2, 1), ints("k", -99, 90), ints("z", 0, 0)}
)

// definition decides what the chapter says of a node. Its results are the type, the interval, and what is wrong by numbers of nodes.
type definition struct {
	variables []api.Variable
	wrong     map[int]int
}

func (d definition) of(n api.Node) (int, api.Range) {
	if n.Kind == api.NodeNumber {
		v, _ := strconv.Atoi(n.Text)
		return api.TypeInt, api.Range{Lo: v, Hi: v}
	}
	if n.Kind == api.NodeName {
		for _, v := range d.variables {
			if v.Name == n.Text {
				return v.Sort, v.Range
			}
		}
		d.wrong[n.At] = api.DiagUnknown
		return api.TypeNone, api.Range{}
	}
	return d.operator(n)
}

func (d definition) operator(n api.Node) (int, api.Range) {
	var kinds []int
	var ranges []api.Range
	for _, kid := range n.Kids {
		kind, r := d.of(kid)
		kinds, ranges = append(kinds, kind), append(ranges, r)
	}
	wanted, result := api.TypeInt, api.TypeBool
	switch n.Text {
	case "==", "!=":
		return d.equality(n, kinds), api.Range{}
	case "and", "or", "not":
		wanted = api.TypeBool
	case "+", "-", "*":
		result = api.TypeInt
	}
	for i, kind := range kinds {
		if kind != wanted {
			result = api.TypeNone
			if kind != api.TypeNone {
				d.wrong[n.Kids[i].At] = api.DiagType
			}
		}
	}
	if result != api.TypeInt {
		return result, api.Range{}
	}
	r := combined(n.Text, ranges)
	if r.Lo < -1000000 || r.Hi > 1000000 {
		d.wrong[n.At] = api.DiagValue
		return api.TypeNone, api.Range{}
	}
	return api.TypeInt, r
}

// combined returns the least and the greatest result.
func combined(text string, l []api.Range) api.Range {
	if len(l) == 1 {
		return api.Range{Lo: -l[0].Hi, Hi: -l[0].Lo}
	}
	a, b := l[0], l[1]
	switch text {
	case "+":
		return api.Range{Lo: a.Lo + b.Lo, Hi: a.Hi + b.Hi}
	case "-":
		return api.Range{Lo: a.Lo - b.Hi, Hi: a.Hi - b.Lo}
	}
	return api.Range{Lo: min(a.Lo*b.Lo, a.Lo*b.Hi, a.Hi*b.Lo, a.Hi*b.Hi), Hi: max(a.Lo*b.Lo, a.Lo*b.Hi, a.Hi*b.Lo, a.Hi*b.Hi)}
}

func (d definition) equality(n api.Node, kinds []int) int {
	a, b := kinds[0], kinds[1]
	if a == api.TypeNone || b == api.TypeNone {
		return api.TypeNone
	}
	if a == b && a != api.TypeBool {
		return api.TypeBool
	}
	code := api.DiagType
	for i, sort := range kinds {
		other := n.Kids[1-i]
		if sort < 0 {
			continue
		}
		if kinds[1-i] >= 0 {
			code = api.DiagSort
		} else if other.Kind == api.NodeNumber {
			if v, _ := strconv.Atoi(other.Text); v < fewSorts[sort].Size {
				return api.TypeBool
			}
			code = api.DiagSize
		}
	}
	d.wrong[n.At] = code
	return api.TypeNone
}

// meaning returns what an expression means for the Values of variables: bools as 1 and 0.
func meaning(n api.Node, variables []api.Variable) int {
	one := func(b bool) int {
		if b {
			return 1
		}
		return 0
	}
	switch n.Kind {
	case api.NodeNumber:
		v, _ := strconv.Atoi(n.Text)
		return v
	case api.NodeName:
		return variables[slices.IndexFunc(variables, func(v api.Variable) bool { return v.Name == n.Text })].Value
	}
	a := meaning(n.Kids[0], variables)
	if n.Kind == api.NodeUnary {
		return map[string]int{"-": -a, "not": one(a == 0)}[n.Text]
	}
	b := meaning(n.Kids[1], variables)
	return map[string]int{"or": one(a+b > 0), "and": one(a+b == 2), "==": one(a == b), "!=": one(a != b), "<": one(a < b), "<=": one(a <= b), ">": one(a > b), ">=": one(a >= b), "+": a + b, "-": a - b, "*": a * b}[n.Text]
}

func (a *author) values() []api.Variable {
	l := slices.Clone(few)
	for i, v := range l {
		if v.Sort >= 0 {
			l[i].Value = a.random.Intn(fewSorts[v.Sort].Size)
		} else {
			l[i].Value = v.Range.Lo + a.random.Intn(v.Range.Hi-v.Range.Lo+1)
		}
	}
	return l
}

func TestP7_1AndP7_2Definition(t *testing.T) {
	codes := map[int]int{}
	for _, errors := range []int{0, 3, 20} {
		a := &author{rand.New(rand.NewSource(int64(errors))), errors}
		for range 3000 {
			n := placed(a.expression(a.random.Intn(2)-2, 1+a.random.Intn(7)))
			variables := few[a.random.Intn(2)*a.random.Intn(2):]
			d := definition{variables, map[int]int{}}
			kind, interval := d.of(n)
			got, wrong := expression.Check(n, variables, fewSorts)
			if got != kind {
				t.Fatalf("%v is %d, not %d", n, got, kind)
			}
			last := -1
			for _, w := range wrong {
				if w.At <= last || w.End != w.At+1000 || d.wrong[w.At] != w.Code || (w.Text != "") != (w.Code == api.DiagUnknown) {
					t.Fatalf("%v: %v, not %v", n, wrong, d.wrong)
				}
				last = w.At
				codes[w.Code]++
			}
			if len(wrong) != len(d.wrong) || (len(wrong) > 0) != (kind == api.TypeNone) {
				t.Fatalf("%v: %v, not %v", n, wrong, d.wrong)
			}
			if r, ok := expression.Interval(n, variables, fewSorts); ok != (kind == api.TypeInt) || ok && r != interval || !ok && r != (api.Range{}) {
				t.Fatalf("%v has the interval %v, not %v", n, r, interval)
			}
		}
	}
	for _, code := range []int{api.DiagUnknown, api.DiagType, api.DiagSort, api.DiagSize, api.DiagValue} {
		if codes[code] == 0 {
			t.Errorf("no expression with the diagnostic %d", code)
		}
	}
}

func TestP7_3AndP7_4Values(t *testing.T) {
	a := &author{rand.New(rand.NewSource(7)), 0}
	types := map[int]int{}
	for range 3000 {
		n := a.expression(a.random.Intn(4)-2, 1+a.random.Intn(7))
		kind, _ := expression.Check(n, few, fewSorts)
		types[kind]++
		l := a.values()
		value, e := expression.Evaluate(n, l, fewSorts)
		if kind == api.TypeNone {
			if value != 0 || e != api.ErrType {
				t.Fatal(n, value, e)
			}
			continue
		}
		if want := meaning(n, l); value != want || e != api.OK {
			t.Fatalf("%v is %d, %d, not %d", n, value, e, want)
		}
		r, _ := expression.Interval(n, few, fewSorts)
		switch {
		case kind == api.TypeBool:
			r = api.Range{Hi: 1}
		case kind >= 0:
			r = api.Range{Hi: fewSorts[kind].Size - 1}
		}
		if value < r.Lo || value > r.Hi {
			t.Fatalf("%v is %d, which is not in %v", n, value, r)
		}
	}
	for kind := api.TypeNone; kind < 2; kind++ {
		if types[kind] == 0 {
			t.Errorf("no expression of the type %d", kind)
		}
	}
}

func TestP7_4GreaterRange(t *testing.T) {
	a := &author{rand.New(rand.NewSource(8)), 0}
	compared := 0
	for range 2000 {
		n := a.expression(api.TypeInt, 1+a.random.Intn(6))
		wide := slices.Clone(few)
		for i := range wide {
			wide[i].Range.Lo -= a.random.Intn(3)
			wide[i].Range.Hi += a.random.Intn(3)
		}
		former, ok := expression.Interval(n, few, fewSorts)
		r, okWide := expression.Interval(n, wide, fewSorts)
		if ok && okWide {
			compared++
			if r.Lo > former.Lo || r.Hi < former.Hi {
				t.Fatalf("%v: %v does not contain %v", n, r, former)
			}
		}
		if okWide && !ok {
			t.Fatalf("%v is an int only for greater ranges", n)
		}
	}
	if compared == 0 {
		t.Error("nothing was compared")
	}
}

func TestP7_4Text(t *testing.T) {
	for _, errors := range []int{0, 10} {
		a := &author{rand.New(rand.NewSource(9)), errors}
		for range 1000 {
			n := a.expression(a.random.Intn(4)-2, 1+a.random.Intn(6))
			m, l := rewritten(t, n), a.values()
			kind, wrong := expression.Check(n, l, fewSorts)
			kind2, wrong2 := expression.Check(m, l, fewSorts)
			r, ok := expression.Interval(n, l, fewSorts)
			r2, ok2 := expression.Interval(m, l, fewSorts)
			value, e := expression.Evaluate(n, l, fewSorts)
			value2, e2 := expression.Evaluate(m, l, fewSorts)
			if kind != kind2 || len(wrong) != len(wrong2) || r != r2 || ok != ok2 || value != value2 || e != e2 {
				t.Fatalf("%v: %d %v %v %d %d, not %d %v %v %d %d", n, kind2, wrong2, r2, value2, e2, kind, wrong, r, value, e)
			}
		}
	}
}
