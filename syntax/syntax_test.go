package syntax_test

import (
	"math/rand"
	"reflect"
	"regexp"
	"slices"
	"strings"
	"testing"

	"confluent/api"
	"confluent/syntax"
)

// kinds are the names of the kinds of nodes without "Node", in the order of their numbers.
const kinds = "Error None Program Sort Relation Counter Set Register Invariant Operation Columns Column Range Key Reference Count Acyclic Linear Names Bound Total Term Cell Parameters Parameter Block Require Hold Insert Delete Add Put Drop Assign For Name Number Integer Word Unary Binary"

const keywords = "sort relation counter set register invariant operation key reference to count acyclic all sum in addwins removewins last multi hide ordered require hold insert delete add from put drop assign for where and or not"

// The table of the chapter, with the Kids as regular expressions over the names of their kinds, each behind a blank.
// The Text of a NodeWord stands behind its name, and Limit is a NodeBound as it stands in NodeHold.
const table = `
None        -        
Program     -        ( Sort| Relation| Counter| Set| Register| Invariant| Operation)*
Sort        name      Number
Relation    name      Columns
Counter     name      Columns Range
Set         name      Columns Word:(addwins|removewins)
Register    name      Columns Range Word:(last|multi)
Invariant   name     ( Key| Reference| Count| Acyclic| Linear)
Operation   name      Parameters( None| Word:ordered) Block
Columns     -        ( Column)*
Column      name      Name
Range       -         Integer Integer
Key         name      Names
Reference   name      Name Name( None| Word:hide)
Count       name      Names Bound
Acyclic     name     
Linear      -         Columns Total Bound
Names       -        ( Name)*
Bound       sign      Integer
Limit       sign     EXPRESSION
Total       -        ( Term)+
Term        plus     ( None| Number)( None| Columns) Cell
Cell        name     ( Name| Number)*
Parameters  -        ( Parameter)*
Parameter   name     ( Name| Range)
Block       -        ( Require| Hold| Insert| Delete| Add| Put| Drop| Assign| For)*
Require     -        EXPRESSION
Hold        -         Total Limit
Insert      -         Cell
Delete      -         Cell
Put         -         Cell
Drop        -         Cell
Add         -        EXPRESSION Cell
Assign      -         CellEXPRESSION
For         -         Column( None|EXPRESSION) Block
Name        name     
Number      number   
Integer     integer  
Word        any      
Unary       unary    EXPRESSION
Binary      binary   EXPRESSIONEXPRESSION
`

var texts = map[string]*regexp.Regexp{
	"-":       regexp.MustCompile(`^$`),
	"any":     regexp.MustCompile(``),
	"name":    regexp.MustCompile(`^[a-z][a-z0-9_]{0,15}$`),
	"sign":    regexp.MustCompile(`^(<=|>=)$`),
	"plus":    regexp.MustCompile(`^[+-]$`),
	"number":  regexp.MustCompile(`^(0|[1-9][0-9]{0,3})$`),
	"integer": regexp.MustCompile(`^(0|-?[1-9][0-9]{0,3})$`),
	"unary":   regexp.MustCompile(`^(-|not)$`),
	"binary":  regexp.MustCompile(`^(or|and|==|!=|<|<=|>|>=|\+|-|\*)$`),
}

type rule struct{ text, kids *regexp.Regexp }

func rules() map[string]rule {
	all := map[string]rule{}
	for _, line := range strings.Split(strings.Trim(table, "\n"), "\n") {
		name, text := strings.TrimSpace(line[:12]), strings.TrimSpace(line[12:21])
		kids := strings.ReplaceAll(line[21:], "EXPRESSION", "( Name| Number| Unary| Binary)")
		all[name] = rule{texts[text], regexp.MustCompile("^(" + kids + ")$")}
	}
	return all
}

var (
	kindNames    = strings.Fields(kinds)
	keywordNames = strings.Fields(keywords)
)

func kindName(n api.Node) string {
	if n.Kind < 0 || n.Kind >= len(kindNames) {
		return "Other"
	}
	return kindNames[n.Kind]
}

// fits decides by the table whether all nodes of a tree are as it says, for a tree of which the name is given.
func fits(all map[string]rule, name string, n api.Node) bool {
	own, ok := all[name]
	if !ok || !own.text.MatchString(n.Text) || own.text == texts["name"] && slices.Contains(keywordNames, n.Text) {
		return false
	}
	var row strings.Builder
	for _, kid := range n.Kids {
		kidName := kindName(kid)
		if name == "Hold" && kidName == "Bound" {
			kidName = "Limit"
		}
		if !fits(all, kidName, kid) {
			return false
		}
		if kidName == "Word" {
			kidName += ":" + kid.Text
		}
		row.WriteString(" " + kidName)
	}
	return own.kids.MatchString(row.String())
}

func definedProgram(all map[string]rule, n api.Node) bool {
	return n.Kind == api.NodeProgram && fits(all, kindName(n), n)
}

func definedExpression(all map[string]rule, n api.Node) bool {
	kind := slices.Contains([]int{api.NodeName, api.NodeNumber, api.NodeUnary, api.NodeBinary}, n.Kind)
	return kind && fits(all, kindName(n), n)
}

func node(kind int, text string, kids ...api.Node) api.Node {
	return api.Node{Kind: kind, Text: text, Kids: kids}
}

func name(text string) api.Node     { return node(api.NodeName, text) }
func number(text string) api.Node   { return node(api.NodeNumber, text) }
func integer(text string) api.Node  { return node(api.NodeInteger, text) }
func word(text string) api.Node     { return node(api.NodeWord, text) }
func none() api.Node                { return node(api.NodeNone, "") }
func column(text string) api.Node   { return node(api.NodeColumn, text, name("s")) }
func names(of ...api.Node) api.Node { return node(api.NodeNames, "", of...) }
func total(of ...api.Node) api.Node { return node(api.NodeTotal, "", of...) }
func block(of ...api.Node) api.Node { return node(api.NodeBlock, "", of...) }
func cell(of ...api.Node) api.Node  { return node(api.NodeCell, "r", of...) }
func values(a, b string) api.Node   { return node(api.NodeRange, "", integer(a), integer(b)) }
func bound(value api.Node) api.Node { return node(api.NodeBound, "<=", value) }
func not(operand api.Node) api.Node { return node(api.NodeUnary, "not", operand) }
func columns(of ...string) api.Node {
	n := node(api.NodeColumns, "")
	for _, text := range of {
		n.Kids = append(n.Kids, column(text))
	}
	return n
}
func binary(text string, a, b api.Node) api.Node { return node(api.NodeBinary, text, a, b) }

// example is a program with all kinds of nodes.
func example() api.Node {
	term := node(api.NodeTerm, "-", number("2"), columns("x"), cell(name("x"), number("0")))
	short := node(api.NodeTerm, "+", none(), none(), cell())
	return node(api.NodeProgram, "",
		node(api.NodeSort, "s", number("2")),
		node(api.NodeRelation, "r", columns("a", "b")),
		node(api.NodeCounter, "c", columns(), values("-3", "9999")),
		node(api.NodeSet, "t", columns("a"), word("addwins")),
		node(api.NodeSet, "t", columns("a"), word("removewins")),
		node(api.NodeRegister, "g", columns("a"), values("0", "1"), word("last")),
		node(api.NodeRegister, "g", columns("a"), values("7", "-1"), word("multi")),
		node(api.NodeInvariant, "i", node(api.NodeKey, "r", names(name("a")))),
		node(api.NodeInvariant, "i", node(api.NodeReference, "r", name("a"), name("t"), none())),
		node(api.NodeInvariant, "i", node(api.NodeReference, "r", name("a"), name("t"), word("hide"))),
		node(api.NodeInvariant, "i", node(api.NodeCount, "r", names(), bound(integer("1")))),
		node(api.NodeInvariant, "i", node(api.NodeAcyclic, "r")),
		node(api.NodeInvariant, "i", node(api.NodeLinear, "", columns("x"), total(term, short), node(api.NodeBound, ">=", integer("0")))),
		node(api.NodeOperation, "o", node(api.NodeParameters, "", node(api.NodeParameter, "p", name("s")), node(api.NodeParameter, "q", values("0", "3"))), none(), block(
			node(api.NodeRequire, "", binary("and", not(name("p")), binary("<", number("1"), node(api.NodeUnary, "-", name("q"))))),
			node(api.NodeHold, "", total(short), bound(binary("*", name("q"), number("3")))),
			node(api.NodeInsert, "", cell(name("p"))),
			node(api.NodeDelete, "", cell()),
			node(api.NodeAdd, "", name("q"), cell()),
			node(api.NodePut, "", cell()),
			node(api.NodeDrop, "", cell()),
			node(api.NodeAssign, "", cell(), name("q")),
			node(api.NodeFor, "", column("x"), binary("==", name("x"), name("p")), block(node(api.NodeFor, "", column("y"), none(), block()))),
		)),
		node(api.NodeOperation, "u", node(api.NodeParameters, ""), word("ordered"), block()),
	)
}

// all returns the nodes of a tree in the order of their numbers, and their paths.
func all(n api.Node) ([]api.Node, [][]int) {
	nodes, paths := []api.Node{n}, [][]int{nil}
	for i, kid := range n.Kids {
		below, pathsBelow := all(kid)
		nodes = append(nodes, below...)
		for _, path := range pathsBelow {
			paths = append(paths, append([]int{i}, path...))
		}
	}
	return nodes, paths
}

// clone is a deep copy with other places, made by this test itself.
func clone(n api.Node, shift int) api.Node {
	m := api.Node{Kind: n.Kind, Text: n.Text, At: n.At + shift, End: n.End + 2*shift}
	for _, kid := range n.Kids {
		m.Kids = append(m.Kids, clone(kid, shift))
	}
	return m
}

// at returns a pointer to the node with a path.
func at(n *api.Node, path []int) *api.Node {
	for _, i := range path {
		n = &n.Kids[i]
	}
	return n
}

func TestP3_1Example(t *testing.T) {
	rules := rules()
	if n := example(); !syntax.Program(n) || !definedProgram(rules, n) || !syntax.Program(clone(n, 5)) {
		t.Error("the example has not the shape of a program")
	}
	if !syntax.Program(node(api.NodeProgram, "")) {
		t.Error("the empty program has not the shape of a program")
	}
	nodes, _ := all(example())
	seen := map[int]bool{}
	for i, n := range nodes {
		seen[n.Kind] = true
		if got := syntax.Program(n); got != (i == 0) {
			t.Errorf("node %d: Program is %v", i, got)
		}
		if got, want := syntax.Expression(n), definedExpression(rules, n); got != want {
			t.Errorf("node %d: Expression is %v", i, got)
		}
	}
	if len(seen) != len(kindNames)-1 {
		t.Errorf("the example has %d kinds", len(seen))
	}
}

// changes of one node, after most of which its tree has no shape.
func changes(r *rand.Rand) []func(n *api.Node) {
	words := append(strings.Fields("a a1_ r s 0 1 9999 10000 01 00 -1 -0 -01 -- + - * <= >= < = == != <> . or and not ordered hide last multi addwins removewins a_name_of_16_byt a_name_of_17_byte A é a-b"), "", " ", "a ", " 1", "1 ", "- 1")
	return []func(n *api.Node){
		func(n *api.Node) { n.Text = words[r.Intn(len(words))] },
		func(n *api.Node) { n.Kind = r.Intn(len(kindNames)+2) - 1 },
		func(n *api.Node) {
			if len(n.Kids) > 0 {
				i := r.Intn(len(n.Kids))
				n.Kids = slices.Delete(n.Kids, i, i+1)
			}
		},
		func(n *api.Node) {
			if len(n.Kids) > 0 {
				i, j := r.Intn(len(n.Kids)), r.Intn(len(n.Kids))
				n.Kids[i], n.Kids[j] = n.Kids[j], n.Kids[i]
			}
		},
		func(n *api.Node) {
			nodes, _ := all(example())
			n.Kids = append(n.Kids, clone(nodes[r.Intn(len(nodes))], 0))
		},
		func(n *api.Node) {
			nodes, _ := all(example())
			*n = clone(nodes[r.Intn(len(nodes))], 0)
		},
	}
}

func TestP3_1Changes(t *testing.T) {
	rules, r := rules(), rand.New(rand.NewSource(3))
	changes := changes(r)
	_, paths := all(example())
	good, bad := 0, 0
	for _, path := range paths {
		for range 40 {
			n := example()
			changes[r.Intn(len(changes))](at(&n, path))
			want := definedProgram(rules, n)
			if got := syntax.Program(n); got != want {
				t.Fatalf("Program is %v after a change of %v: %v", got, path, n)
			}
			for i := range len(path) + 1 {
				m := *at(&n, path[:i])
				if got, want := syntax.Expression(m), definedExpression(rules, m); got != want {
					t.Fatalf("Expression is %v: %v", got, m)
				}
			}
			if want {
				good++
			} else {
				bad++
			}
		}
	}
	if good < 100 || bad < 100 {
		t.Errorf("%d good trees and %d bad ones", good, bad)
	}
}

// Every kind at every place, with the Text and the Kids of examples of this kind.
func TestP3_1Kinds(t *testing.T) {
	rules := rules()
	nodes, paths := all(example())
	var others []api.Node
	for _, n := range nodes {
		if !slices.ContainsFunc(others, func(m api.Node) bool { return m.Kind == n.Kind && m.Text == n.Text }) {
			others = append(others, n)
		}
	}
	for kind := -1; kind <= api.NodeBinary+1; kind++ {
		others = append(others, node(kind, ""))
	}
	for _, path := range paths {
		for _, by := range others {
			n := example()
			*at(&n, path) = clone(by, 0)
			if got, want := syntax.Program(n), definedProgram(rules, n); got != want {
				t.Fatalf("Program is %v with %v at %v", got, by, path)
			}
		}
	}
}

func TestP3_1Invalid(t *testing.T) {
	for i, n := range []api.Node{
		{}, {Kind: -1}, {Kind: api.NodeBinary + 1}, {Kind: 1 << 40},
		node(api.NodeProgram, "a"),
		node(api.NodeProgram, "", node(api.NodeError, "")),
		node(api.NodeProgram, "", node(api.NodeProgram, "")),
		node(api.NodeProgram, "", node(api.NodeSort, "s")),
		node(api.NodeProgram, "", node(api.NodeSort, "s", number("02"))),
		node(api.NodeProgram, "", node(api.NodeSort, "sort", number("2"))),
		node(api.NodeProgram, "", node(api.NodeSort, "s", integer("2"))),
		node(api.NodeProgram, "", node(api.NodeCounter, "c", columns(), values("-0", "1"))),
		node(api.NodeProgram, "", node(api.NodeSet, "c", columns(), word("last"))),
		node(api.NodeProgram, "", node(api.NodeInvariant, "i", node(api.NodeLinear, "", columns(), total(), bound(integer("1"))))),
		node(api.NodeProgram, "", node(api.NodeInvariant, "i", node(api.NodeCount, "r", names(), bound(number("1"))))),
		node(api.NodeProgram, "", node(api.NodeOperation, "o", node(api.NodeParameters, ""), word("hide"), block())),
	} {
		if syntax.Program(n) || syntax.Expression(n) {
			t.Errorf("tree %d has a shape", i)
		}
	}
	for i, n := range []api.Node{name("a"), number("0"), not(not(name("a"))), binary("or", name("a"), binary("*", number("1"), node(api.NodeUnary, "-", number("2"))))} {
		if !syntax.Expression(n) || syntax.Program(n) {
			t.Errorf("expression %d has not its shape", i)
		}
	}
	for i, n := range []api.Node{name(""), name("or"), number("00"), integer("1"), word("last"), not(none()), node(api.NodeUnary, "+", name("a")), binary("=", name("a"), name("b")), binary("not", name("a"), name("b")), node(api.NodeBinary, "+", name("a")), node(api.NodeName, "a", name("b")), none()} {
		if syntax.Expression(n) {
			t.Errorf("tree %d has the shape of an expression", i)
		}
	}
}

func TestP3_2Numbers(t *testing.T) {
	n := example()
	nodes, paths := all(n)
	if got := syntax.Count(n); got != len(nodes) {
		t.Errorf("%d nodes, not %d", got, len(nodes))
	}
	for number, path := range paths {
		if got, ok := syntax.Get(n, path...); !ok || !reflect.DeepEqual(got, nodes[number]) {
			t.Errorf("%v leads to %v, %v", path, got, ok)
		}
		if got, ok := syntax.Path(n, number); !ok || !slices.Equal(got, path) {
			t.Errorf("%d has the path %v, %v, not %v", number, got, ok, path)
		}
		if got, ok := syntax.Number(n, path...); !ok || got != number {
			t.Errorf("%v has the number %d, %v, not %d", path, got, ok, number)
		}
		below, pathsBelow := all(nodes[number])
		deepest := 0
		for _, p := range pathsBelow {
			deepest = max(deepest, len(p))
		}
		if count, levels := syntax.Count(nodes[number]), syntax.Levels(nodes[number]); count != len(below) || levels != deepest+1 {
			t.Errorf("node %d has %d nodes and %d levels", number, count, levels)
		}
	}
}

func TestP3_2ExampleOfTheChapter(t *testing.T) {
	n := node(api.NodeProgram, "", node(api.NodeSort, "s", number("2")), node(api.NodeRelation, "r", columns("a")))
	if syntax.Count(n) != 7 || syntax.Levels(n) != 5 {
		t.Error(syntax.Count(n), syntax.Levels(n))
	}
	if path, ok := syntax.Path(n, 6); !ok || !slices.Equal(path, []int{1, 0, 0, 0}) {
		t.Error(path, ok)
	}
	if number, ok := syntax.Number(n, 1, 0, 0, 0); !ok || number != 6 {
		t.Error(number, ok)
	}
	for number, kind := range []int{api.NodeProgram, api.NodeSort, api.NodeNumber, api.NodeRelation, api.NodeColumns, api.NodeColumn, api.NodeName} {
		path, _ := syntax.Path(n, number)
		if m, ok := syntax.Get(n, path...); !ok || m.Kind != kind {
			t.Error(number, m, ok)
		}
	}
}

func TestP3_2Missing(t *testing.T) {
	n := example()
	count := syntax.Count(n)
	for _, number := range []int{-1, -1 << 63, count, count + 1, 1<<63 - 1} {
		if path, ok := syntax.Path(n, number); ok || len(path) > 0 {
			t.Errorf("%d has the path %v", number, path)
		}
	}
	for _, path := range [][]int{{-1}, {len(n.Kids)}, {0, 1}, {0, 0, 0}, {0, -1}, {1 << 62}, {0, 0, -1 << 63}} {
		if m, ok := syntax.Get(n, path...); ok || !reflect.DeepEqual(m, api.Node{}) {
			t.Errorf("%v leads to %v", path, m)
		}
		if number, ok := syntax.Number(n, path...); ok || number != 0 {
			t.Errorf("%v has the number %d", path, number)
		}
		if m, e := syntax.Replace(n, path, name("a")); e != api.ErrNotFound || !reflect.DeepEqual(m, api.Node{}) {
			t.Errorf("%v is replaced: %v, %d", path, m, e)
		}
	}
	if syntax.Count(api.Node{}) != 1 || syntax.Levels(api.Node{}) != 1 {
		t.Error("the zero node is not one node")
	}
}

func TestP3_3Equal(t *testing.T) {
	n := example()
	if !syntax.Equal(n, n) || !syntax.Equal(n, clone(n, 3)) || !syntax.Equal(api.Node{}, api.Node{Kids: []api.Node{}}) {
		t.Error("equal trees are not equal")
	}
	r := rand.New(rand.NewSource(5))
	changes := changes(r)
	_, paths := all(n)
	for _, path := range paths {
		for _, change := range changes {
			m := example()
			change(at(&m, path))
			want := reflect.DeepEqual(clone(n, 0), clone(m, 0))
			if syntax.Equal(n, m) != want || syntax.Equal(m, n) != want {
				t.Errorf("Equal is %v after a change of %v", !want, path)
			}
		}
	}
}

func TestP3_3Strip(t *testing.T) {
	n := example()
	if got := syntax.Strip(clone(n, 9)); !reflect.DeepEqual(clone(n, 0), clone(got, 0)) {
		t.Errorf("stripped: %v", got)
	}
	nodes, _ := all(syntax.Strip(clone(n, -2)))
	for i, m := range nodes {
		if m.At != 0 || m.End != 0 {
			t.Errorf("node %d: %d to %d", i, m.At, m.End)
		}
	}
}

func TestP3_4Replace(t *testing.T) {
	by := node(api.NodeUnary, "new", node(api.NodeName, "x", none()))
	by.At, by.Kids[0].End = 77, 78
	_, paths := all(example())
	for _, path := range paths {
		n := clone(example(), 4)
		want := clone(n, 0)
		*at(&want, path) = by
		got, e := syntax.Replace(n, path, by)
		if e != api.OK || !reflect.DeepEqual(clone(got, 0), clone(want, 0)) {
			t.Errorf("%v: %v, %d", path, got, e)
		}
		if !reflect.DeepEqual(n, clone(example(), 4)) {
			t.Fatalf("%v: the argument has changed", path)
		}
	}
}

func TestP3_4Texts(t *testing.T) {
	nodes, _ := all(example())
	for kind := -1; kind <= api.NodeBinary+1; kind++ {
		var want []string
		for _, n := range nodes {
			if n.Kind == kind {
				want = append(want, n.Text)
			}
		}
		if got := syntax.Texts(example(), kind); !slices.Equal(got, want) {
			t.Errorf("kind %d: %q, not %q", kind, got, want)
		}
	}
	if got := syntax.Texts(node(api.NodeCell, "a", name("b"), node(api.NodeCell, "c", name("d")), name("b")), api.NodeName); !slices.Equal(got, []string{"b", "d", "b"}) {
		t.Errorf("%q", got)
	}
}

func TestP3_5Consequences(t *testing.T) {
	n := clone(example(), 6)
	nodes, paths := all(n)
	by := name("other")
	for number, path := range paths {
		same, e := syntax.Replace(n, path, nodes[number])
		if e != api.OK || !reflect.DeepEqual(clone(same, 0), n) {
			t.Errorf("%v replaced by itself: %v, %d", path, same, e)
		}
		other, _ := syntax.Replace(n, path, by)
		if got, ok := syntax.Get(other, path...); !ok || !reflect.DeepEqual(clone(got, 0), by) {
			t.Errorf("%v: %v, %v", path, got, ok)
		}
		for i, p := range paths {
			common := min(len(p), len(path))
			if slices.Equal(p[:common], path[:common]) {
				continue
			}
			if got, ok := syntax.Get(other, p...); !ok || !reflect.DeepEqual(clone(got, 0), nodes[i]) {
				t.Errorf("%v changes %v: %v, %v", path, p, got, ok)
			}
		}
	}
}

// scramble changes all nodes of a tree.
func scramble(n *api.Node) {
	for i := range n.Kids {
		scramble(&n.Kids[i])
	}
	*n = api.Node{Kind: 99, Text: "scrambled", Kids: n.Kids}
}

func TestP3_5ResultsAreNew(t *testing.T) {
	n, by := example(), not(not(name("a")))
	stripped := syntax.Strip(n)
	replaced, _ := syntax.Replace(n, []int{0, 0}, by)
	whole, _ := syntax.Replace(n, nil, by)
	twice, _ := syntax.Replace(n, []int{0}, n)
	for _, result := range []*api.Node{&stripped, &replaced, &whole, &twice} {
		scramble(result)
	}
	if !reflect.DeepEqual(n, example()) || !reflect.DeepEqual(by, not(not(name("a")))) {
		t.Error("a change of a result changes an argument")
	}
	path, _ := syntax.Path(n, 9)
	clear(path)
	clear(syntax.Texts(n, api.NodeName))
	if again, _ := syntax.Path(n, 9); slices.Equal(again, path) || !reflect.DeepEqual(n, example()) {
		t.Error("a change of a path changes something else")
	}
	shared, _ := syntax.Get(n, 0)
	shared.Kids[0].Text = "7"
	if n.Kids[0].Kids[0].Text != "7" {
		t.Error("Get copies the Kids")
	}
}

// A tree of many levels: nothing takes time that grows with the square of them.
func TestP1DeepTrees(t *testing.T) {
	const levels = 1 << 16
	n := name("a")
	for range levels - 1 {
		n = not(n)
	}
	if !syntax.Expression(n) || syntax.Program(n) || syntax.Levels(n) != levels || syntax.Count(n) != levels || !syntax.Equal(n, syntax.Strip(n)) {
		t.Error("a deep tree is not what it is")
	}
	path, ok := syntax.Path(n, levels-1)
	if number, found := syntax.Number(n, path...); !ok || !found || number != levels-1 {
		t.Error(len(path), number)
	}
	if m, e := syntax.Replace(n, path, name("b")); e != api.OK || !slices.Equal(syntax.Texts(m, api.NodeName), []string{"b"}) {
		t.Error(e)
	}
}
