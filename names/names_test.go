package names_test

import (
	"fmt"
	"reflect"
	"slices"
	"strconv"
	"strings"
	"testing"

	"confluent/api"
	"confluent/lexer"
	"confluent/names"
	"confluent/parser"
	"confluent/syntax"
)

func parse(t *testing.T, text string) api.Node {
	t.Helper()
	n, wrong, e := parser.Parse(text)
	if e != api.OK || len(wrong) > 0 {
		t.Fatalf("%q is broken: %v, %d", text, wrong, e)
	}
	return n
}

// preorder returns the nodes of a tree in the order of their numbers.
func preorder(n api.Node) []api.Node {
	nodes := []api.Node{n}
	for _, kid := range n.Kids {
		nodes = append(nodes, preorder(kid)...)
	}
	return nodes
}

var kindNames = strings.Fields("sort table invariant operation column variable parameter")

// showDeclarations writes each declaration as its kind, its name, and its Owner behind /, if it has one.
func showDeclarations(r api.Resolution) string {
	var all []string
	for _, d := range r.Declarations {
		text := kindNames[d.Kind] + " " + d.Name
		if d.Owner != -1 {
			text += "/" + strconv.Itoa(d.Owner)
		}
		all = append(all, text)
	}
	return strings.Join(all, ", ")
}

// showUses writes each node that makes or uses a declaration as its Text and the index of the declaration.
func showUses(n api.Node, r api.Resolution) string {
	var all []string
	for number, node := range preorder(n) {
		if r.Uses[number] != -1 {
			all = append(all, node.Text+strconv.Itoa(r.Uses[number]))
		}
	}
	return strings.Join(all, " ")
}

// showWrong writes each diagnostic as its code and the bytes of its span.
func showWrong(text string, diagnostics []api.Diagnostic) string {
	codes := map[int]string{api.DiagDeclared: "declared", api.DiagUnknown: "unknown", api.DiagKind: "kind"}
	var all []string
	for _, d := range diagnostics {
		all = append(all, codes[d.Code]+" "+d.Text+" "+strconv.Itoa(d.At)+" "+text[d.At:d.End])
	}
	return strings.Join(all, " | ")
}

type resolved struct{ text, declarations, uses, wrong string }

func check(t *testing.T, cases []resolved) {
	t.Helper()
	for _, c := range cases {
		n := parse(t, c.text)
		r, wrong, e := names.Resolve(n)
		if e != api.OK || len(r.Uses) != syntax.Count(n) {
			t.Errorf("%q is %d, with %d uses", c.text, e, len(r.Uses))
			continue
		}
		if got := showDeclarations(r); got != c.declarations {
			t.Errorf("%q declares\n%s, not\n%s", c.text, got, c.declarations)
		}
		if got := showUses(n, r); got != c.uses {
			t.Errorf("%q uses\n%s, not\n%s", c.text, got, c.uses)
		}
		if got := showWrong(c.text, wrong); got != c.wrong {
			t.Errorf("%q has\n%s, not\n%s", c.text, got, c.wrong)
		}
	}
}

const chapter = "sort s 2; relation r(a: s); operation o(p: s) { for x: s where x == p { insert r(x); } }"

func TestP6_1Resolve(t *testing.T) {
	check(t, []resolved{
		{"", "", "", ""},
		{chapter, "sort s, table r, column a/3, operation o, parameter p/7, variable x/7", "s0 r1 a2 s0 o3 p4 s0 x5 s0 x5 p4 r1 x5", ""},
		{"counter c() in 0..1; set m() addwins; register g() in 0..1 last; relation r();", "table c, table m, table g, table r", "c0 m1 g2 r3", ""},
		{"relation r(a: s); sort s 2; invariant i: key q(b); relation q(b: s);", "table r, column a/1, sort s, invariant i, table q, column b/11", "r0 a1 s2 s2 i3 q4 b5 q4 b5 s2", ""},
		{"sort s 2; relation r(s: s, r: s); relation q(s: s); invariant i: reference r(r) to q hide; invariant j: count r(s, r, s) <= 1; invariant k: acyclic r; invariant l: reference r(s) to q;",
			"sort s, table r, column s/3, column r/3, table q, column s/9, invariant i, invariant j, invariant k, invariant l",
			"s0 r1 s2 s0 r3 s0 q4 s5 s0 i6 r1 r3 q4 j7 r1 s2 r3 s2 k8 r1 l9 r1 s2 q4", ""},
		{"sort s 2; relation r(a: s, b: s); invariant i: all(r: s, s: s) 2 * sum(a: s, b: s) r(a, b) - r(r, 1) + sum(a: s) r(a, s) <= 3;",
			"sort s, table r, column a/3, column b/3, invariant i, variable r/9, variable s/9, variable a/9, variable b/9, variable a/9",
			"s0 r1 a2 s0 b3 s0 i4 r5 s0 s6 s0 a7 s0 b8 s0 r1 a7 b8 r1 r5 a9 s0 r1 a9 s6", ""},
		{"sort s 2; counter c(a: s) in 0..3; operation o(c: s, n in 0..2) ordered { hold sum(x: s) c(x) - 2 * c(c) >= n; for x: s { for y: s where x != y { add n * 2 to c(y); } } for x: s { delete c(x); } require not n < 1; assign c(c) = -n; put c(0); drop c(c); }",
			"sort s, table c, column a/3, operation o, parameter c/10, parameter n/10, variable x/10, variable x/10, variable y/10, variable x/10",
			"s0 c1 a2 s0 o3 c4 s0 n5 x6 s0 c1 x6 c1 c4 n5 x7 s0 y8 s0 x7 y8 n5 c1 y8 x9 s0 c1 x9 n5 c1 c4 n5 c1 c1 c4", ""},
	})
}

func TestP6_1Declared(t *testing.T) {
	check(t, []resolved{
		{"sort s 2; sort s 3;", "sort s", "s0", "declared s 10 sort s 3;"},
		{"sort s 2; relation s(a: s); counter s() in 0..1; set s() addwins; register s() in 0..1 last; invariant s: acyclic s; operation s() {}",
			"sort s, column a/3", "s0 a1 s0", "declared s 10 relation s(a: s); | declared s 28 counter s() in 0..1; | declared s 49 set s() addwins; | declared s 66 register s() in 0..1 last; | declared s 93 invariant s: acyclic s; | kind s 106 acyclic s | declared s 117 operation s() {}"},
		{"sort s 2; relation r(a: s, b: s, a: s); set r(b: s, b: s) addwins; invariant i: key r(b, a);", "sort s, table r, column a/3, column b/3, column b/11, invariant i", "s0 r1 a2 s0 b3 s0 s0 b4 s0 s0 i5 r1 b3 a2", "declared a 33 a: s | declared r 40 set r(b: s, b: s) addwins; | declared b 52 b: s"},
		{"sort s 2; operation o(p: s, p in 0..1) { require p == 0; } operation o(p: s) { require p == 1; }", "sort s, operation o, parameter p/3, parameter p/17", "s0 o1 p2 s0 p2 p3 s0 p3", "declared p 28 p in 0..1 | declared o 59 operation o(p: s) { require p == 1; }"},
		{"sort s 2; counter c(a: s) in 0..1; invariant i: all(x: s, x: s) sum(x: s, y: s, y: s) c(x) + sum(y: s) c(y) <= 1;", "sort s, table c, column a/3, invariant i, variable x/10, variable y/10, variable y/10", "s0 c1 a2 s0 i3 x4 s0 s0 s0 y5 s0 s0 c1 x4 y6 s0 c1 y6", "declared x 58 x: s | declared x 68 x: s | declared y 80 y: s"},
		{"sort s 2; counter c(a: s) in 0..1; operation o(p: s) { for p: s where p == 0 { for x: s { for x: s { add 1 to c(x); } hold sum(p: s, x: s, y: s) c(y) >= 0; } for x: s {} } }",
			"sort s, table c, column a/3, operation o, parameter p/10, variable x/10, variable y/10, variable x/10", "s0 c1 a2 s0 o3 p4 s0 s0 p4 x5 s0 s0 c1 x5 s0 s0 y6 s0 c1 y6 x7 s0", "declared p 59 p: s | declared x 94 x: s | declared p 127 p: s | declared x 133 x: s"},
	})
}

func TestP6_1Wrong(t *testing.T) {
	check(t, []resolved{
		{"relation r(a: s, b: r, c: i); invariant i: acyclic r;", "table r, column a/1, column b/1, column c/1, invariant i", "r0 a1 b2 c3 i4 r0", "unknown s 14 s | kind r 20 r | kind i 26 i"},
		{"sort s 2; operation o(p: t, q: o, x: p) { for y: o { insert s(p); insert p(y); delete o(z); put t(); } }", "sort s, operation o, parameter p/3, parameter q/3, parameter x/3, variable y/3", "s0 o1 p2 q3 x4 y5 p2 y5", "unknown t 25 t | kind o 31 o | unknown p 37 p | kind o 49 o | kind s 60 s(p) | unknown p 73 p(y) | kind o 86 o(z) | unknown z 88 z | unknown t 96 t()"},
		{"sort s 2; relation r(a: s); relation q(b: s); invariant i: key r(b, s, i, r, a); invariant j: reference q(a) to s; invariant k: reference s(a) to z; invariant l: count z(a, q) <= 1; invariant m: reference m(a) to r hide; invariant n: acyclic a;",
			"sort s, table r, column a/3, table q, column b/7, invariant i, invariant j, invariant k, invariant l, invariant m, invariant n",
			"s0 r1 a2 s0 q3 b4 s0 i5 r1 a2 j6 q3 k7 l8 m9 r1 n10",
			"unknown b 65 b | unknown s 68 s | unknown i 71 i | unknown r 74 r | unknown a 106 a | kind s 112 s | kind s 128 reference s(a) to z | unknown z 146 z | unknown z 162 count z(a, q) <= 1 | kind m 195 reference m(a) to r hide | unknown a 234 acyclic a"},
		{"sort s 2; counter c(a: s) in 0..1; invariant i: all(x: s) sum(y: s) c(x) + c(y) - sum(y: x) c(a) <= 1; operation o(p: s) { hold sum(y: s) c(y) + c(y) <= y; for x: s where y == x and a == s { } require x == c; }",
			"sort s, table c, column a/3, invariant i, variable x/10, variable y/10, variable y/10, operation o, parameter p/37, variable y/37, variable x/37",
			"s0 c1 a2 s0 i3 x4 s0 y5 s0 c1 x4 c1 y6 c1 o7 p8 s0 y9 s0 c1 y9 c1 x10 s0 x10",
			"unknown y 77 y | unknown x 89 x | unknown a 94 a | unknown y 147 y | unknown y 153 y | unknown y 171 y | unknown a 182 a | unknown s 187 s | unknown x 201 x | unknown c 206 c"},
	})
}

func TestP6_1Shapes(t *testing.T) {
	good := parse(t, chapter)
	broken, _, _ := parser.Parse("sort s 2; relation r(a: ); operation o(p) { insert ; }")
	noProgram, _, _ := parser.Expression("a and b")
	for i, n := range []api.Node{{}, broken, noProgram, good.Kids[0], {Kind: api.NodeProgram, Text: "x"}, {Kind: api.NodeProgram, Kids: []api.Node{good}}} {
		r, wrong, e := names.Resolve(n)
		if e != api.ErrArg || len(wrong) > 0 || len(r.Declarations) > 0 || len(r.Uses) > 0 {
			t.Errorf("tree %d: %v %v %d", i, r, wrong, e)
		}
		for number := -1; number < 4; number++ {
			if got := names.Visible(n, number); len(got) > 0 {
				t.Errorf("tree %d: at %d %v is visible", i, number, got)
			}
		}
		for _, declaration := range []int{-1, 0, 1} {
			for _, name := range []string{"fresh", "sort"} {
				if m, e := names.Rename(n, declaration, name); e != api.ErrArg || !reflect.DeepEqual(m, api.Node{}) {
					t.Errorf("tree %d is renamed: %v %d", i, m, e)
				}
			}
		}
	}
	for _, n := range []api.Node{syntax.Strip(good), {Kind: api.NodeProgram}} {
		if _, wrong, e := names.Resolve(n); e != api.OK || len(wrong) > 0 {
			t.Error(wrong, e)
		}
	}
}

func TestP6_2Uses(t *testing.T) {
	r, _, _ := names.Resolve(parse(t, chapter))
	for declaration, want := range [][]int{{1, 6, 10, 15}, {3, 21}, {5}, {7}, {9, 18}, {14, 17, 22}, nil} {
		if got := names.Uses(r, declaration); !slices.Equal(got, want) {
			t.Errorf("%d: %v, not %v", declaration, got, want)
		}
	}
	typed := api.Resolution{Uses: []int{-1, 7, -2, 0, 7, 1 << 62, 7}}
	for declaration, want := range map[int][]int{-2: nil, -1: nil, 0: {3}, 1: nil, 7: {1, 4, 6}, 1 << 62: {5}} {
		if got := names.Uses(typed, declaration); !slices.Equal(got, want) {
			t.Errorf("typed %d: %v, not %v", declaration, got, want)
		}
	}
	if got := names.Uses(api.Resolution{}, 0); len(got) > 0 {
		t.Error(got)
	}
}

func TestP6_2Find(t *testing.T) {
	r, _, _ := names.Resolve(parse(t, chapter))
	for kind := -1; kind <= api.DeclParameter+1; kind++ {
		for _, name := range []string{"s", "r", "a", "o", "p", "x", "", "sort"} {
			want, found := 0, false
			for i, d := range r.Declarations {
				if !found && d.Kind <= api.DeclOperation && d.Kind == kind && d.Name == name {
					want, found = i, true
				}
			}
			if got, ok := names.Find(r, kind, name); got != want || ok != found {
				t.Errorf("%d %s: %d %v", kind, name, got, ok)
			}
		}
	}
	if i, ok := names.Find(r, api.DeclOperation, "o"); i != 3 || !ok {
		t.Error(i, ok)
	}
	typed := api.Resolution{Declarations: []api.Declaration{{Kind: 9, Name: "a", Owner: 0}, {Kind: 9, Name: "a", Owner: -2}, {Kind: 8, Name: "a", Owner: -1}, {Kind: 9, Name: "", Node: -5, Owner: -1}, {Kind: 9, Name: "a", Owner: -1}, {Kind: 9, Name: "a", Owner: -1}, {Kind: api.DeclColumn, Name: "c", Owner: -1}}}
	for _, c := range []struct {
		kind int
		name string
		want int
		ok   bool
	}{{9, "a", 4, true}, {8, "a", 2, true}, {9, "", 3, true}, {9, "b", 0, false}, {7, "a", 0, false}, {api.DeclColumn, "c", 6, true}} {
		if got, ok := names.Find(typed, c.kind, c.name); got != c.want || ok != c.ok {
			t.Errorf("typed %d %s: %d %v", c.kind, c.name, got, ok)
		}
	}
	if i, ok := names.Find(api.Resolution{}, api.DeclSort, ""); i != 0 || ok {
		t.Error(i, ok)
	}
}

// showVisible writes the kind and the Text of each node at which variables are visible, and their names.
func showVisible(n api.Node) string {
	r, _, _ := names.Resolve(n)
	kinds := strings.Fields("error none program sort relation counter set register invariant operation columns column range key reference count acyclic linear names bound total term cell parameters parameter block require hold insert delete add put drop assign for name number integer word unary binary")
	var all []string
	for number, node := range preorder(n) {
		text := ""
		for _, index := range names.Visible(n, number) {
			text += r.Declarations[index].Name
		}
		if text != "" {
			all = append(all, kinds[node.Kind]+":"+node.Text+"="+text)
		}
	}
	return strings.Join(all, " ")
}

func TestP6_3Visible(t *testing.T) {
	for _, c := range []struct{ text, want string }{
		{"", ""},
		{"sort s 2; relation r(a: s, b: s); invariant i: key r(a); invariant j: count r(a) <= 1; invariant k: reference r(a) to r; invariant l: acyclic r; operation o() { insert r(0, 1); }", ""},
		{chapter, "block:=p for:=p binary:===px name:x=px name:p=px block:=px insert:=px cell:r=px name:x=px"},
		{"sort s 2; relation r(a: s); invariant i: all(x: s, y: s) 2 * sum(z: s) r(z) - r(x) <= 3;",
			"total:=xy term:+=xy number:2=xy cell:r=xyz name:z=xyz term:-=xy none:=xy none:=xy cell:r=xy name:x=xy"},
		{"sort s 2; relation r(a: s); operation o(p: s, q in 0..2) ordered { hold 2 * sum(z: s) r(z) <= q + 1; for x: s { for y: s { } } for x: s where not x == 0 { } }",
			"block:=pq hold:=pq total:=pq term:+=pq number:2=pq cell:r=pqz name:z=pqz bound:<==pq binary:+=pq name:q=pq number:1=pq " +
				"for:=pq none:=pqx block:=pqx for:=pqx none:=pqxy block:=pqxy for:=pq unary:not=pqx binary:===pqx name:x=pqx number:0=pqx block:=pqx"},
		{"operation o(p: s) { for p: p where x == q { insert p(q); } } operation o(q: s, q: s) { for x: s { } }",
			"block:=p for:=p binary:===p name:x=p name:q=p block:=p insert:=p cell:p=p name:q=p block:=q for:=q none:=qx block:=qx"},
	} {
		if got := showVisible(parse(t, c.text)); got != c.want {
			t.Errorf("%q:\n%s, not\n%s", c.text, got, c.want)
		}
	}
	n := parse(t, chapter)
	if got := names.Visible(n, 18); !slices.Equal(got, []int{4, 5}) {
		t.Error(got)
	}
	for _, number := range []int{-1, -1 << 63, syntax.Count(n), 1<<63 - 1} {
		if got := names.Visible(n, number); len(got) > 0 {
			t.Errorf("at %d %v is visible", number, got)
		}
	}
}

func TestP6_4Rename(t *testing.T) {
	const text = "sort s 2; relation r(a: s, b: s); invariant i: key r(a); invariant j: all(x: s) sum(y: s) r(x, y) <= 1; operation o(p: s) { for x: s { insert r(x, p); } for x: s where x != p { delete r(x, x); } }"
	n := parse(t, text)
	r, _, _ := names.Resolve(n)
	for index, want := range []string{
		strings.NewReplacer("sort s", "sort zz", ": s", ": zz").Replace(text),
		strings.NewReplacer("relation r", "relation zz", "key r", "key zz", " r(", " zz(").Replace(text),
		strings.NewReplacer("(a: s", "(zz: s", "key r(a)", "key r(zz)").Replace(text),
		strings.ReplaceAll(text, "b: s", "zz: s"),
		strings.ReplaceAll(text, "invariant i", "invariant zz"),
		strings.ReplaceAll(text, "invariant j", "invariant zz"),
		strings.NewReplacer("(x: s", "(zz: s", "r(x, y)", "r(zz, y)").Replace(text),
		strings.NewReplacer("y: s", "zz: s", "r(x, y)", "r(x, zz)").Replace(text),
		strings.ReplaceAll(text, "operation o", "operation zz"),
		strings.NewReplacer("(p: s", "(zz: s", "x, p", "x, zz", "!= p", "!= zz").Replace(text),
		strings.NewReplacer("for x: s {", "for zz: s {", "(x, p)", "(zz, p)").Replace(text),
		strings.NewReplacer("for x: s where x", "for zz: s where zz", "(x, x)", "(zz, zz)").Replace(text),
	} {
		got, e := names.Rename(n, index, "zz")
		if e != api.OK || !syntax.Equal(got, parse(t, want)) {
			t.Errorf("%d is renamed to %v, %d", index, syntax.Texts(got, api.NodeName), e)
		}
		nodes, before := preorder(got), preorder(n)
		for i := range nodes {
			if nodes[i].At != before[i].At || nodes[i].End != before[i].End {
				t.Errorf("%d has changed the place of the node %d", index, i)
			}
		}
		if same, e := names.Rename(n, index, r.Declarations[index].Name); e != api.OK || !reflect.DeepEqual(syntax.Strip(same), syntax.Strip(n)) {
			t.Errorf("%d is renamed to itself: %d", index, e)
		}
	}
}

func TestP6_4Errors(t *testing.T) {
	const text = "sort s 2; relation r(a: s, b: s); invariant i: all(x: s) sum(y: s) r(x, y) <= 1; operation o(p: s, q in 0..1) { for x: s { insert r(x, p); } for z: s { } }"
	n, unresolved := parse(t, text), parse(t, "sort s 2; sort s 2;")
	const s, r, a, b, i, x, y, o, p, q, inner = 0, 1, 2, 3, 4, 5, 6, 7, 8, 9, 10
	for _, c := range []struct {
		tree        api.Node
		declaration int
		name        string
		want        api.Errno
	}{
		{unresolved, 0, "t", api.ErrArg}, {unresolved, 9, "sort", api.ErrArg},
		{n, -1, "t", api.ErrNotFound}, {n, 12, "t", api.ErrNotFound}, {n, 12, "sort", api.ErrNotFound}, {n, 1 << 62, "", api.ErrNotFound}, {n, -1 << 63, "s", api.ErrNotFound},
		{n, s, "", api.ErrName}, {n, s, "sort", api.ErrName}, {n, s, "A", api.ErrName}, {n, s, "a b", api.ErrName}, {n, s, "1", api.ErrName}, {n, s, "a_name_of_17_byte", api.ErrName}, {n, p, "for", api.ErrName},
		{n, s, "r", api.ErrExists}, {n, s, "i", api.ErrExists}, {n, r, "o", api.ErrExists}, {n, o, "s", api.ErrExists}, {n, a, "b", api.ErrExists}, {n, b, "a", api.ErrExists}, {n, x, "y", api.ErrExists}, {n, y, "x", api.ErrExists}, {n, p, "q", api.ErrExists}, {n, p, "x", api.ErrExists}, {n, inner, "p", api.ErrExists}, {n, inner, "q", api.ErrExists}, {n, q, "z", api.ErrExists},
		{n, s, "a_name_of_16_byt", api.OK}, {n, s, "a", api.OK}, {n, a, "s", api.OK}, {n, a, "r", api.OK}, {n, s, "x", api.OK}, {n, p, "s", api.OK}, {n, p, "y", api.OK}, {n, i, "p", api.OK}, {n, inner, "z", api.OK}, {n, inner, "r", api.OK}, {n, inner, "a", api.OK},
	} {
		got, e := names.Rename(c.tree, c.declaration, c.name)
		if e != c.want || e != api.OK && !reflect.DeepEqual(got, api.Node{}) {
			t.Errorf("%d to %q: %d, not %d", c.declaration, c.name, e, c.want)
		}
	}
}

func TestP6_5RenameAndBack(t *testing.T) {
	for _, text := range accepted(40) {
		n := parse(t, text)
		r, _, _ := names.Resolve(n)
		for index, d := range r.Declarations {
			there, e := names.Rename(n, index, "fresh")
			if e != api.OK || lexer.Kind("fresh") != api.TokenName {
				t.Fatalf("%q: %s cannot be renamed: %d", text, d.Name, e)
			}
			for number, node := range preorder(there) {
				if (node.Text == "fresh") != (r.Uses[number] == index) {
					t.Fatalf("%q: the Text of the node %d is %s", text, number, node.Text)
				}
			}
			back, e := names.Rename(there, index, d.Name)
			if e != api.OK || !reflect.DeepEqual(syntax.Strip(back), syntax.Strip(n)) {
				t.Fatalf("%q: %s cannot be renamed back: %d", text, d.Name, e)
			}
		}
	}
}

// meaning returns for each node of a declaration on the outermost level the declaration that it uses, told without numbers.
func meaning(n api.Node, r api.Resolution, from int) []string {
	var all []string
	for number := from; number < from+syntax.Count(n); number++ {
		text := "-"
		if use := r.Uses[number]; use >= 0 {
			d := r.Declarations[use]
			text = fmt.Sprint(d.Kind, d.Name)
			if d.Owner == from {
				text += fmt.Sprint(" at ", d.Node-from)
			}
		}
		all = append(all, text)
	}
	return all
}

func TestP6_5Order(t *testing.T) {
	for _, text := range accepted(60) {
		n := parse(t, text)
		reversed := api.Node{Kind: n.Kind, Kids: slices.Clone(n.Kids)}
		slices.Reverse(reversed.Kids)
		r, _, _ := names.Resolve(n)
		back, wrong, e := names.Resolve(reversed)
		if e != api.OK || len(wrong) > 0 || len(back.Declarations) != len(r.Declarations) {
			t.Fatalf("%q reversed: %v, %d", text, wrong, e)
		}
		from, fromBack := 1, syntax.Count(n)
		for _, kid := range n.Kids {
			fromBack -= syntax.Count(kid)
			if a, b := meaning(kid, r, from), meaning(kid, back, fromBack); !slices.Equal(a, b) {
				t.Fatalf("%q reversed: %v, not %v", text, b, a)
			}
			from += syntax.Count(kid)
		}
	}
}

func TestP6_5VisibleCanStandThere(t *testing.T) {
	tried := 0
	for _, text := range accepted(60) {
		n := parse(t, text)
		r, _, _ := names.Resolve(n)
		for number, node := range preorder(n) {
			if use := r.Uses[number]; node.Kind != api.NodeName || use < 0 || r.Declarations[use].Kind < api.DeclVariable {
				continue
			}
			path, _ := syntax.Path(n, number)
			if !slices.Contains(names.Visible(n, number), r.Uses[number]) {
				t.Fatalf("%q: what the node %d uses is not visible there", text, number)
			}
			for _, index := range names.Visible(n, number) {
				other := node
				other.Text = r.Declarations[index].Name
				m, _ := syntax.Replace(n, path, other)
				want := slices.Clone(r.Uses)
				want[number] = index
				if got, wrong, e := names.Resolve(m); e != api.OK || len(wrong) > 0 || !slices.Equal(got.Uses, want) {
					t.Fatalf("%q: %s cannot stand at the node %d: %v", text, other.Text, number, wrong)
				}
				tried++
			}
		}
	}
	if tried < 500 {
		t.Errorf("only %d variables were tried", tried)
	}
}

// scramble changes all nodes of a tree.
func scramble(n *api.Node) {
	for i := range n.Kids {
		scramble(&n.Kids[i])
	}
	*n = api.Node{Kind: 99, Text: "scrambled", Kids: n.Kids}
}

func TestP6_5ResultsAreNew(t *testing.T) {
	n := parse(t, chapter)
	same, _ := names.Rename(n, 0, "s")
	other, _ := names.Rename(n, 1, "q")
	scramble(&same)
	scramble(&other)
	r, _, _ := names.Resolve(n)
	clear(names.Uses(r, 0))
	again, wrong, e := names.Resolve(n)
	if !reflect.DeepEqual(n, parse(t, chapter)) || !reflect.DeepEqual(r, again) || len(wrong) > 0 || e != api.OK {
		t.Error("a change of a result changes something else")
	}
	clear(r.Uses)
	clear(r.Declarations)
	clear(names.Visible(n, 17))
	if last, _, _ := names.Resolve(n); !reflect.DeepEqual(last, again) || !slices.Equal(names.Visible(n, 17), []int{4, 5}) {
		t.Error("a change of a result changes another one")
	}
}

// A tree with many levels of loops, each with a variable of its own.
func TestP1DeepTrees(t *testing.T) {
	const loops = 1000
	leaf := func(kind int, text string) api.Node { return api.Node{Kind: kind, Text: text} }
	block := api.Node{Kind: api.NodeBlock}
	for i := range loops {
		column := api.Node{Kind: api.NodeColumn, Text: "x" + strconv.Itoa(loops-1-i), Kids: []api.Node{leaf(api.NodeName, "s")}}
		loop := api.Node{Kind: api.NodeFor, Kids: []api.Node{column, leaf(api.NodeNone, ""), block}}
		block = api.Node{Kind: api.NodeBlock, Kids: []api.Node{loop}}
	}
	sort := api.Node{Kind: api.NodeSort, Text: "s", Kids: []api.Node{leaf(api.NodeNumber, "2")}}
	operation := api.Node{Kind: api.NodeOperation, Text: "o", Kids: []api.Node{leaf(api.NodeParameters, ""), leaf(api.NodeNone, ""), block}}
	n := api.Node{Kind: api.NodeProgram, Kids: []api.Node{sort, operation}}
	r, wrong, e := names.Resolve(n)
	if e != api.OK || len(wrong) > 0 || len(r.Declarations) != loops+2 {
		t.Fatal(len(r.Declarations), len(wrong), e)
	}
	if got := names.Visible(n, syntax.Count(n)-1); len(got) != loops || got[0] != 2 || !slices.IsSorted(got) {
		t.Error(len(got))
	}
	if _, e := names.Rename(n, 5, "y"); e != api.OK {
		t.Error(e)
	}
	if _, e := names.Rename(n, 5, "x5"); e != api.ErrExists {
		t.Error(e)
	}
}
