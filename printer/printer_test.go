package printer_test

import (
	"math/rand"
	"reflect"
	"slices"
	"strings"
	"testing"

	"confluent/api"
	"confluent/lexer"
	"confluent/parser"
	"confluent/printer"
	"confluent/syntax"
)

func parse(t *testing.T, text string) api.Node {
	t.Helper()
	n, wrong, e := parser.Parse(text)
	if e != api.OK || len(wrong) > 0 {
		t.Fatalf("%q is broken: %v, %d", text, wrong, e)
	}
	return n
}

func expression(t *testing.T, text string) api.Node {
	t.Helper()
	n, wrong, e := parser.Expression(text)
	if e != api.OK || len(wrong) > 0 {
		t.Fatalf("%q is broken: %v, %d", text, wrong, e)
	}
	return n
}

func TestP5_1Program(t *testing.T) {
	for _, c := range []struct{ text, want string }{
		{"", ""},
		{"# nothing\n ", ""},
		{"sort s 02;sort t 0;", "sort s 2;\nsort t 0;\n"},
		{"relation r();relation q (a:s , b : t) ;", "relation r();\nrelation q(a: s, b: t);\n"},
		{"counter c ( a:s )in - 1 .. 3;counter d()in -2..-01;", "counter c(a: s) in -1..3;\ncounter d() in -2..-1;\n"},
		{"set m(a:s)addwins;set n()removewins;", "set m(a: s) addwins;\nset n() removewins;\n"},
		{"register g(a:s)in 0..9999 last;register h()in-0..0multi;", "register g(a: s) in 0..9999 last;\nregister h() in 0..0 multi;\n"},
		{"invariant i:key r (a,b);invariant j : key r();", "invariant i: key r(a, b);\ninvariant j: key r();\n"},
		{"invariant i:reference r( a )to q;invariant j:reference r(a)to q hide;", "invariant i: reference r(a) to q;\ninvariant j: reference r(a) to q hide;\n"},
		{"invariant i:count r()<=- 1;invariant j:count r(a)>=2;", "invariant i: count r() <= -1;\ninvariant j: count r(a) >= 2;\n"},
		{"invariant i:acyclic r;", "invariant i: acyclic r;\n"},
		{"invariant i:all()c()<=1;invariant j:all (x:s,y:s)-2*sum (z:s)r(x,z)+c()-3*d(0,y)- sum(z:s)r(z)>=-7;",
			"invariant i: all() c() <= 1;\ninvariant j: all(x: s, y: s) -2 * sum(z: s) r(x, z) + c() - 3 * d(0, y) - sum(z: s) r(z) >= -7;\n"},
		{"operation o(){}operation u(p:s,q in- 1..2)ordered{ }", "operation o() {}\noperation u(p: s, q in -1..2) ordered {}\n"},
		{"operation o(p:s,q in 0..2){require(p==1)and not(q<-(1));hold -2*sum(x:s)r(x,p)>=0;}",
			"operation o(p: s, q in 0..2) {\n  require p == 1 and not q < -1;\n  hold -2 * sum(x: s) r(x, p) >= 0;\n}\n"},
		{"operation o(){hold-c()<=-(1+2);hold sum()c()-c()>=n-1;insert r(x,0);delete r();put m(y);drop m();add(1)to c();add-n to c(x);assign g()=(n);assign g(1)=-n*-2;}",
			"operation o() {\n  hold -c() <= -(1 + 2);\n  hold sum() c() - c() >= n - 1;\n  insert r(x, 0);\n  delete r();\n  put m(y);\n  drop m();\n  add 1 to c();\n  add -n to c(x);\n  assign g() = n;\n  assign g(1) = -n * -2;\n}\n"},
		{"operation o(){for x:s{}for y:t where(y==0){put m(y);for z:s where(z==1 or z==2)and not(not z==y){drop m(z);}}put n();}sort s 1;",
			"operation o() {\n  for x: s {}\n  for y: t where y == 0 {\n    put m(y);\n    for z: s where (z == 1 or z == 2) and not not z == y {\n      drop m(z);\n    }\n  }\n  put n();\n}\nsort s 1;\n"},
	} {
		n := parse(t, c.text)
		if got, e := printer.Format(n); got != c.want || e != api.OK {
			t.Errorf("%q is %d\n%s, not\n%s", c.text, e, got, c.want)
		}
		if got, e := printer.Format(syntax.Strip(n)); got != c.want || e != api.OK {
			t.Errorf("%q without places is %d\n%s", c.text, e, got)
		}
	}
}

func TestP5_1Expression(t *testing.T) {
	for _, c := range []struct{ text, want string }{
		{"a", "a"}, {"((007))", "7"}, {"a_name_of_16_byt", "a_name_of_16_byt"},
		{"-a", "-a"}, {"-(a)", "-a"}, {"- -a", "--a"}, {"-(-(1))", "--1"}, {"not a", "not a"}, {"not(a)", "not a"}, {"not(not(a))", "not not a"}, {"not(-a)", "not -a"}, {"-(not a)", "-(not a)"},
		{"a+b-c", "a + b - c"}, {"a-(b-c)", "a - (b - c)"}, {"(a-b)-c", "a - b - c"}, {"a+(b+c)", "a + (b + c)"}, {"a--b", "a - -b"}, {"a-(-b)", "a - -b"}, {"-a-b", "-a - b"}, {"-(a-b)", "-(a - b)"}, {"(-a)-b", "-a - b"},
		{"a*b*c", "a * b * c"}, {"a*(b*c)", "a * (b * c)"}, {"(a+b)*c", "(a + b) * c"}, {"a+b*c", "a + b * c"}, {"a*(b-c)", "a * (b - c)"}, {"-a*b", "-a * b"}, {"-(a*b)", "-(a * b)"}, {"a*-b", "a * -b"}, {"a*(not b)", "a * (not b)"},
		{"a<b", "a < b"}, {"a<=b", "a <= b"}, {"a>b", "a > b"}, {"a>=b", "a >= b"}, {"a==b", "a == b"}, {"a!=b", "a != b"}, {"(a<b)<c", "(a < b) < c"}, {"a<(b<c)", "a < (b < c)"}, {"a+1<b*2", "a + 1 < b * 2"}, {"(a==b)+1", "(a == b) + 1"}, {"a==(not b)", "a == (not b)"}, {"(not a)==b", "(not a) == b"}, {"not(a==b)", "not a == b"}, {"(a and b)==(c or d)", "(a and b) == (c or d)"},
		{"a and b and c", "a and b and c"}, {"a and(b and c)", "a and (b and c)"}, {"a and(b or c)", "a and (b or c)"}, {"(a and b)or c", "a and b or c"}, {"a or b and c", "a or b and c"}, {"(a or b)and c", "(a or b) and c"}, {"a or(b or c)", "a or (b or c)"}, {"(a or b)or c", "a or b or c"},
		{"(not a)and b", "not a and b"}, {"not(a and b)", "not (a and b)"}, {"not(a or b)", "not (a or b)"}, {"a and(not b)", "a and not b"}, {"a or not b", "a or not b"}, {"a and b==c", "a and b == c"}, {"(a==b)and(c<d)", "a == b and c < d"},
		{"(p==1)and not(q<-(1))", "p == 1 and not q < -1"},
	} {
		n := expression(t, c.text)
		if got, e := printer.Expression(n); got != c.want || e != api.OK {
			t.Errorf("%q is %q, %d, not %q", c.text, got, e, c.want)
		}
	}
}

func TestP5_1Shapes(t *testing.T) {
	leaf := func(kind int, text string) api.Node { return api.Node{Kind: kind, Text: text} }
	program := parse(t, "sort s 2;")
	broken, _, _ := parser.Parse("sort s;")
	hole, _, _ := parser.Expression("a + ")
	for i, n := range []api.Node{{}, leaf(-1, ""), leaf(99, "a"), leaf(api.NodeProgram, "a"), broken, hole, program.Kids[0], leaf(api.NodeNone, ""), leaf(api.NodeName, ""), leaf(api.NodeName, "or"), leaf(api.NodeNumber, "01"), leaf(api.NodeInteger, "1"), leaf(api.NodeWord, "last"),
		{Kind: api.NodeProgram, Kids: []api.Node{broken.Kids[0]}}, {Kind: api.NodeProgram, Kids: []api.Node{leaf(api.NodeName, "a")}}, {Kind: api.NodeUnary, Text: "+", Kids: []api.Node{leaf(api.NodeName, "a")}}, {Kind: api.NodeBinary, Text: "+", Kids: []api.Node{leaf(api.NodeName, "a")}}} {
		if text, e := printer.Format(n); text != "" || e != api.ErrArg {
			t.Errorf("tree %d is the program %q, %d", i, text, e)
		}
		if text, e := printer.Expression(n); text != "" || e != api.ErrArg {
			t.Errorf("tree %d is the expression %q, %d", i, text, e)
		}
	}
	if text, e := printer.Expression(program); text != "" || e != api.ErrArg {
		t.Errorf("a program is the expression %q, %d", text, e)
	}
	if text, e := printer.Format(expression(t, "a + 1")); text != "" || e != api.ErrArg {
		t.Errorf("an expression is the program %q, %d", text, e)
	}
}

// sorts returns a program whose canonical text has so many bytes, and this text.
func sorts(bytes int) (api.Node, string) {
	const line = "sort s 2;\n"
	last := "s" + strings.Repeat("x", bytes%len(line))
	size := api.Node{Kind: api.NodeNumber, Text: "2"}
	n := api.Node{Kind: api.NodeProgram, Kids: slices.Repeat([]api.Node{{Kind: api.NodeSort, Text: "s", Kids: []api.Node{size}}}, bytes/len(line))}
	n.Kids[len(n.Kids)-1].Text = last
	return n, strings.Repeat(line, bytes/len(line)-1) + "sort " + last + " 2;\n"
}

// minuses returns an expression whose canonical text has so many bytes, and this text.
func minuses(bytes int) (api.Node, string) {
	n := api.Node{Kind: api.NodeName, Text: "a"}
	for range bytes - 1 {
		n = api.Node{Kind: api.NodeUnary, Text: "-", Kids: []api.Node{n}}
	}
	return n, strings.Repeat("-", bytes-1) + "a"
}

// nested returns an expression whose operands have so many pairs of parentheses, and its canonical text.
func nested(pairs int) (api.Node, string) {
	n := api.Node{Kind: api.NodeName, Text: "a"}
	for range pairs + 1 {
		n = api.Node{Kind: api.NodeBinary, Text: "*", Kids: []api.Node{{Kind: api.NodeName, Text: "a"}, n}}
	}
	return n, strings.Repeat("a * (", pairs) + "a * a" + strings.Repeat(")", pairs)
}

func TestP5_1TooLarge(t *testing.T) {
	check := func(format func(n api.Node) (string, api.Errno), n api.Node, text string) {
		t.Helper()
		want, wantError := text, api.OK
		if len(text) > api.MaxSource {
			want, wantError = "", api.ErrTooLarge
		}
		if got, e := format(n); got != want || e != wantError {
			t.Errorf("%d bytes: %d bytes, %d", len(text), len(got), e)
		}
	}
	for _, bytes := range []int{10, 19, api.MaxSource - 1, api.MaxSource, api.MaxSource + 1, api.MaxSource + 9, 10 * api.MaxSource} {
		n, text := sorts(bytes)
		check(printer.Format, n, text)
		n, text = minuses(bytes)
		check(printer.Expression, n, text)
	}
	for pairs := api.MaxSource/6 - 5; pairs < api.MaxSource/6+5; pairs++ {
		n, text := nested(pairs)
		check(printer.Expression, n, text)
	}
}

func TestP5_2Level(t *testing.T) {
	binary := map[string]int{"or": 1, "and": 2, "==": 4, "!=": 4, "<": 4, "<=": 4, ">": 4, ">=": 4, "+": 5, "-": 5, "*": 6}
	unary := map[string]int{"not": 3, "-": 7}
	texts := append(strings.Fields("or and == != < <= > >= + - * not a 1 = / -1 ordered OR"), "", " ", "- ")
	for kind := -1; kind <= api.NodeBinary+1; kind++ {
		for _, text := range texts {
			for kids := range 4 {
				want := 0
				switch {
				case kind == api.NodeBinary && kids == 2:
					want = binary[text]
				case kind == api.NodeUnary && kids == 1:
					want = unary[text]
				case (kind == api.NodeName || kind == api.NodeNumber) && kids == 0:
					want = 8
				}
				n := api.Node{Kind: kind, Text: text, At: 7, End: 3, Kids: make([]api.Node, kids)}
				if got := printer.Level(n); got != want {
					t.Errorf("the kind %d with the Text %q and %d Kids has the level %d, not %d", kind, text, kids, got, want)
				}
			}
		}
	}
}

// layout writes the words of a program by the rules of the chapter, which say for each word what stands in front of it.
func layout(words []string) string {
	var text strings.Builder
	var open []string      // the words in front of the parentheses that are open
	last, opener := "", "" // the word in front, and the one in front of its parentheses if it ends some
	depth, prefix := 0, false
	for i, word := range words {
		if word == "}" {
			depth--
		}
		switch {
		case i == 0 || last == "{" && word == "}":
		case last == "{" || last == "}" || last == ";" || word == "}":
			text.WriteString("\n" + strings.Repeat(" ", 2*depth))
		case slices.Contains([]string{",", ";", ":", ")", ".."}, word), last == "(", last == "..", prefix:
		case word == "(" && (lexer.Kind(last) == api.TokenName || last == "sum" || last == "all"):
		default:
			text.WriteString(" ")
		}
		text.WriteString(word)
		operand := lexer.Kind(last) == api.TokenName || lexer.Kind(last) == api.TokenNumber || last == ")" && opener != "all"
		prefix = word == "-" && !operand
		switch word {
		case "(":
			open = append(open, last)
		case ")":
			opener = open[len(open)-1]
			open = open[:len(open)-1]
		case "{":
			depth++
		}
		last = word
	}
	if len(words) > 0 {
		text.WriteString("\n")
	}
	return text.String()
}

// grower makes random trees that have their shapes.
type grower struct{ *rand.Rand }

func (g grower) one(texts ...string) string { return texts[g.Intn(len(texts))] }

func (g grower) leaf(kind int, texts ...string) api.Node {
	return api.Node{Kind: kind, Text: g.one(texts...)}
}

func (g grower) name() api.Node { return g.leaf(api.NodeName, "a", "b1", "x_", "long_name_of_16b") }

func (g grower) number() api.Node { return g.leaf(api.NodeNumber, "0", "1", "20", "9999") }

func (g grower) integer() api.Node { return g.leaf(api.NodeInteger, "0", "1", "-1", "-9999", "42") }

func (g grower) none() api.Node { return api.Node{Kind: api.NodeNone} }

func (g grower) node(kind int, kids ...api.Node) api.Node { return api.Node{Kind: kind, Kids: kids} }

// named returns a node with a random name.
func (g grower) named(kind int, kids ...api.Node) api.Node {
	return api.Node{Kind: kind, Text: g.name().Text, Kids: kids}
}

// some returns at least so many random nodes.
func (g grower) some(least int, kid func() api.Node) []api.Node {
	var kids []api.Node
	for range least + g.Intn(3) {
		kids = append(kids, kid())
	}
	return kids
}

func (g grower) column() api.Node { return g.named(api.NodeColumn, g.name()) }

func (g grower) columns() api.Node { return g.node(api.NodeColumns, g.some(0, g.column)...) }

func (g grower) values() api.Node { return g.node(api.NodeRange, g.integer(), g.integer()) }

func (g grower) names() api.Node { return g.node(api.NodeNames, g.some(0, g.name)...) }

func (g grower) either(a, b api.Node) api.Node { return []api.Node{a, b}[g.Intn(2)] }

func (g grower) bound(value api.Node) api.Node {
	return api.Node{Kind: api.NodeBound, Text: g.one("<=", ">="), Kids: []api.Node{value}}
}

func (g grower) cell() api.Node {
	return g.named(api.NodeCell, g.some(0, func() api.Node { return g.either(g.name(), g.number()) })...)
}

func (g grower) total() api.Node {
	return g.node(api.NodeTotal, g.some(1, func() api.Node {
		kids := []api.Node{g.either(g.none(), g.number()), g.either(g.none(), g.columns()), g.cell()}
		return api.Node{Kind: api.NodeTerm, Text: g.one("+", "-"), Kids: kids}
	})...)
}

func (g grower) expression(depth int) api.Node {
	if depth == 0 || g.Intn(5) == 0 {
		return g.either(g.name(), g.number())
	}
	if g.Intn(4) == 0 {
		return api.Node{Kind: api.NodeUnary, Text: g.one("-", "not"), Kids: []api.Node{g.expression(depth - 1)}}
	}
	operator := g.one("or", "and", "==", "!=", "<", "<=", ">", ">=", "+", "-", "*")
	return api.Node{Kind: api.NodeBinary, Text: operator, Kids: []api.Node{g.expression(depth - 1), g.expression(depth - 1)}}
}

func (g grower) block(depth int) api.Node {
	return g.node(api.NodeBlock, g.some(0, func() api.Node { return g.statement(depth) })...)
}

func (g grower) statement(depth int) api.Node {
	switch kind := api.NodeRequire + g.Intn(api.NodeFor-api.NodeRequire+1); kind {
	case api.NodeRequire:
		return g.node(kind, g.expression(3))
	case api.NodeHold:
		return g.node(kind, g.total(), g.bound(g.expression(2)))
	case api.NodeAdd:
		return g.node(kind, g.expression(2), g.cell())
	case api.NodeAssign:
		return g.node(kind, g.cell(), g.expression(2))
	case api.NodeFor:
		if depth > 0 {
			return g.node(kind, g.column(), g.either(g.none(), g.expression(2)), g.block(depth-1))
		}
		return g.node(kind, g.column(), g.none(), g.node(api.NodeBlock))
	default:
		return g.node(kind, g.cell())
	}
}

func (g grower) invariant() api.Node {
	switch kind := api.NodeKey + g.Intn(api.NodeLinear-api.NodeKey+1); kind {
	case api.NodeKey:
		return g.named(kind, g.names())
	case api.NodeReference:
		return g.named(kind, g.name(), g.name(), g.either(g.none(), g.leaf(api.NodeWord, "hide")))
	case api.NodeCount:
		return g.named(kind, g.names(), g.bound(g.integer()))
	case api.NodeAcyclic:
		return g.named(kind)
	default:
		return g.node(kind, g.columns(), g.total(), g.bound(g.integer()))
	}
}

func (g grower) declaration() api.Node {
	switch kind := api.NodeSort + g.Intn(api.NodeOperation-api.NodeSort+1); kind {
	case api.NodeSort:
		return g.named(kind, g.number())
	case api.NodeRelation:
		return g.named(kind, g.columns())
	case api.NodeCounter:
		return g.named(kind, g.columns(), g.values())
	case api.NodeSet:
		return g.named(kind, g.columns(), g.leaf(api.NodeWord, "addwins", "removewins"))
	case api.NodeRegister:
		return g.named(kind, g.columns(), g.values(), g.leaf(api.NodeWord, "last", "multi"))
	case api.NodeInvariant:
		return g.named(kind, g.invariant())
	default:
		parameters := g.node(api.NodeParameters, g.some(0, func() api.Node {
			return g.named(api.NodeParameter, g.either(g.name(), g.values()))
		})...)
		return g.named(kind, parameters, g.either(g.none(), g.leaf(api.NodeWord, "ordered")), g.block(2))
	}
}

// program returns a random program, which fits into MaxSource bytes.
func (g grower) program() api.Node {
	for {
		n := g.node(api.NodeProgram, g.some(0, g.declaration)...)
		if _, e := printer.Format(n); e == api.OK {
			return n
		}
	}
}

// changed returns a tree with another Text, kind or Kid somewhere.
func (g grower) changed(n api.Node) api.Node {
	path, _ := syntax.Path(n, g.Intn(syntax.Count(n)))
	at, _ := syntax.Get(n, path...)
	switch at.Kind {
	case api.NodeName, api.NodeNumber:
		at = g.either(g.name(), g.number())
	case api.NodeInteger:
		at = g.integer()
	case api.NodeTerm:
		at.Text = g.one("+", "-")
	case api.NodeBinary:
		at.Text = g.one("or", "and", "<", "-", "*")
	default:
		at.Kids = slices.Clone(at.Kids)
		if len(at.Kids) > 0 {
			at.Kids = at.Kids[1:]
		}
	}
	m, _ := syntax.Replace(n, path, at)
	return m
}

// mark marks the kinds of all nodes of a tree.
func mark(n api.Node, seen map[int]bool) {
	seen[n.Kind] = true
	for _, kid := range n.Kids {
		mark(kid, seen)
	}
}

func TestP5_3ProgramsAndBack(t *testing.T) {
	g := grower{rand.New(rand.NewSource(5))}
	seen := map[int]bool{}
	for range 1000 {
		n := g.program()
		copied := syntax.Strip(n)
		text, e := printer.Format(n)
		if e != api.OK || text != layout(lexer.Words(text)) {
			t.Fatalf("%d\n%s, not\n%s", e, text, layout(lexer.Words(text)))
		}
		if back := parse(t, text); !syntax.Equal(back, n) {
			t.Fatalf("%s is another tree", text)
		}
		if !reflect.DeepEqual(copied, syntax.Strip(n)) {
			t.Fatalf("%s: the tree has changed", text)
		}
		mark(n, seen)
	}
	if len(seen) != api.NodeBinary-api.NodeNone+1 {
		t.Errorf("the random programs have %d kinds of nodes", len(seen))
	}
}

func TestP5_3EqualExactlyIfEqual(t *testing.T) {
	g := grower{rand.New(rand.NewSource(6))}
	same, other := 0, 0
	for range 1500 {
		n := g.program()
		m := g.changed(n)
		a, _ := printer.Format(n)
		b, e := printer.Format(m)
		if e == api.ErrArg {
			continue
		}
		if (a == b) != syntax.Equal(n, m) {
			t.Fatalf("equal: %v, for the texts\n%s\n%s", syntax.Equal(n, m), a, b)
		}
		if a == b {
			same++
		} else {
			other++
		}
	}
	if same < 100 || other < 100 {
		t.Errorf("%d pairs are equal, %d are not", same, other)
	}
}

// spread writes the words of a program with other white space and with comments.
func (g grower) spread(text string) string {
	var spread strings.Builder
	for _, word := range lexer.Words(text) {
		spread.WriteString(word + g.one(" ", "\n", "\t ", " # ) ; }\n", "\r\n"))
	}
	return spread.String()
}

func TestP5_3OtherTextsOfATree(t *testing.T) {
	g := grower{rand.New(rand.NewSource(7))}
	for range 500 {
		text, _ := printer.Format(g.program())
		for _, other := range []string{text, lexer.Compact(text), g.spread(text)} {
			if len(other) > api.MaxSource {
				continue
			}
			if got, e := printer.Format(parse(t, other)); got != text || e != api.OK {
				t.Fatalf("%q is written as\n%s, not\n%s", other, got, text)
			}
		}
	}
}

// full writes an expression with all parentheses.
func full(n api.Node) string {
	switch len(n.Kids) {
	case 0:
		return "(" + n.Text + ")"
	case 1:
		return "(" + n.Text + full(n.Kids[0]) + ")"
	}
	return "(" + full(n.Kids[0]) + n.Text + full(n.Kids[1]) + ")"
}

// without returns words without the pair of parentheses that begins at an index.
func without(words []string, at int) []string {
	end, depth := at, 0
	for i := at; depth > 0 || i == at; i++ {
		switch words[i] {
		case "(":
			depth++
		case ")":
			depth--
		}
		end = i
	}
	return slices.Delete(slices.Delete(slices.Clone(words), end, end+1), at, at+1)
}

func TestP5_3Parentheses(t *testing.T) {
	g := grower{rand.New(rand.NewSource(8))}
	removed := 0
	for range 1500 {
		n := g.expression(5)
		text, e := printer.Expression(n)
		if e != api.OK || text+"\n" != layout(lexer.Words(text)) {
			t.Fatalf("%q, not %q, %d", text, layout(lexer.Words(text)), e)
		}
		if back := expression(t, text); !syntax.Equal(back, n) {
			t.Fatalf("%q is another tree", text)
		}
		if long := full(n); len(long) <= api.MaxSource && !syntax.Equal(expression(t, long), n) {
			t.Fatalf("%q is another tree", long)
		}
		words := lexer.Words(text)
		for at, word := range words {
			if word != "(" {
				continue
			}
			removed++
			short := strings.Join(without(words, at), " ")
			if m, wrong, _ := parser.Expression(short); len(wrong) == 0 && syntax.Equal(m, n) {
				t.Fatalf("%q needs not all parentheses: %q", text, short)
			}
		}
	}
	if removed < 1000 {
		t.Errorf("only %d pairs of parentheses were removed", removed)
	}
}

// Trees of many levels: the blanks in front of their lines would be many more than they have nodes.
func TestP1DeepTrees(t *testing.T) {
	const levels = 1 << 16
	for _, text := range []string{"not", "*"} {
		n := api.Node{Kind: api.NodeName, Text: "a"}
		other := n
		for range levels - 1 {
			if text == "not" {
				n = api.Node{Kind: api.NodeUnary, Text: text, Kids: []api.Node{n}}
			} else {
				n = api.Node{Kind: api.NodeBinary, Text: text, Kids: []api.Node{n, other}}
			}
		}
		if got, e := printer.Expression(n); got != "" || e != api.ErrTooLarge {
			t.Errorf("%s: %d bytes, %d", text, len(got), e)
		}
	}
	column := api.Node{Kind: api.NodeColumn, Text: "x", Kids: []api.Node{{Kind: api.NodeName, Text: "s"}}}
	block := api.Node{Kind: api.NodeBlock}
	for range levels/2 - 3 {
		loop := api.Node{Kind: api.NodeFor, Kids: []api.Node{column, {Kind: api.NodeNone}, block}}
		block = api.Node{Kind: api.NodeBlock, Kids: []api.Node{loop}}
	}
	operation := api.Node{Kind: api.NodeOperation, Text: "o", Kids: []api.Node{{Kind: api.NodeParameters}, {Kind: api.NodeNone}, block}}
	if got, e := printer.Format(api.Node{Kind: api.NodeProgram, Kids: []api.Node{operation}}); got != "" || e != api.ErrTooLarge {
		t.Errorf("loops: %d bytes, %d", len(got), e)
	}
}
