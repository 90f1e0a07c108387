package names_test

import (
	"math/rand"
	"reflect"
	"slices"
	"strings"
	"testing"

	"confluent/api"
	"confluent/names"
	"confluent/parser"
)

// spot is a node with its number, the numbers of the nodes above it from the tree on, and its index among the Kids.
type spot struct {
	api.Node
	number, index int
	above         []int
}

func spots(n api.Node) []spot {
	var all []spot
	var add func(n api.Node, index int, above []int)
	add = func(n api.Node, index int, above []int) {
		s := spot{n, len(all), index, above}
		all = append(all, s)
		for i, kid := range n.Kids {
			add(kid, i, append(slices.Clone(above), s.number))
		}
	}
	add(n, -1, nil)
	return all
}

// definition decides what the chapter promises by going through its definitions for each node alone.
type definition struct {
	spots []spot
	made  []api.Declaration
	uses  []int
	wrong []api.Diagnostic
}

func define(n api.Node) *definition {
	d := &definition{spots: spots(n)}
	d.uses = slices.Repeat([]int{-1}, len(d.spots))
	for _, s := range d.spots {
		if kind, ok := d.kind(s); ok && !d.declared(s, kind) {
			d.uses[s.number] = len(d.made)
			d.made = append(d.made, api.Declaration{Kind: kind, Name: s.Text, Node: s.number, Owner: d.owner(s)})
		}
	}
	for _, s := range d.spots {
		if _, ok := d.kind(s); ok {
			if d.uses[s.number] == -1 {
				d.report(s, api.DiagDeclared)
			}
		} else {
			d.use(s)
		}
	}
	return d
}

// up returns the node that stands so many levels above another one.
func (d *definition) up(s spot, levels int) spot {
	if len(s.above) < levels {
		return spot{Node: api.Node{Kind: -1}, number: -1}
	}
	return d.spots[s.above[len(s.above)-levels]]
}

// kind returns the kind of the declaration that a node makes.
func (d *definition) kind(s spot) (int, bool) {
	switch s.Kind {
	case api.NodeSort:
		return api.DeclSort, true
	case api.NodeRelation, api.NodeCounter, api.NodeSet, api.NodeRegister:
		return api.DeclTable, true
	case api.NodeInvariant:
		return api.DeclInvariant, true
	case api.NodeOperation:
		return api.DeclOperation, true
	case api.NodeParameter:
		return api.DeclParameter, true
	case api.NodeColumn:
		switch d.up(s, 2).Kind {
		case api.NodeRelation, api.NodeCounter, api.NodeSet, api.NodeRegister:
			return api.DeclColumn, true
		}
		return api.DeclVariable, true
	}
	return 0, false
}

func (d *definition) owner(s spot) int {
	if len(s.above) < 2 {
		return -1
	}
	return s.above[1]
}

// region returns the nodes at which, and below which, the variable that a node declares is visible.
func (d *definition) region(s spot) []int {
	above, kids := d.up(s, 2), []int{1}
	switch above.Kind {
	case api.NodeOperation, api.NodeTerm:
		kids = []int{2}
	case api.NodeLinear:
	default:
		above, kids = d.up(s, 1), []int{1, 2}
	}
	var region []int
	for _, other := range d.spots {
		if len(other.above) > 0 && d.up(other, 1).number == above.number && slices.Contains(kids, other.index) {
			region = append(region, other.number)
		}
	}
	return region
}

func (d *definition) visibleAt(s spot, declaration api.Declaration) bool {
	if declaration.Kind != api.DeclVariable && declaration.Kind != api.DeclParameter {
		return false
	}
	return slices.ContainsFunc(d.region(d.spots[declaration.Node]), func(number int) bool {
		return s.number == number || slices.Contains(s.above, number)
	})
}

func (d *definition) declared(s spot, kind int) bool {
	return slices.ContainsFunc(d.made, func(other api.Declaration) bool {
		if other.Name != s.Text {
			return false
		}
		columns := d.up(s, 1)
		same := columns.Kind == api.NodeColumns && d.up(d.spots[other.Node], 1).number == columns.number
		switch kind {
		case api.DeclColumn:
			return same
		case api.DeclParameter:
			return other.Kind == api.DeclParameter && other.Owner == d.owner(s)
		case api.DeclVariable:
			return same || d.visibleAt(s, other)
		}
		return other.Owner == -1
	})
}

func (d *definition) report(s spot, code int) {
	d.wrong = append(d.wrong, api.Diagnostic{Code: code, At: s.At, End: s.End, Text: s.Text})
}

func (d *definition) use(s spot) {
	above := d.up(s, 1)
	switch {
	case s.Kind == api.NodeName && (above.Kind == api.NodeColumn || above.Kind == api.NodeParameter):
		d.useOutermost(s, api.DeclSort)
	case slices.Contains([]int{api.NodeKey, api.NodeReference, api.NodeCount, api.NodeAcyclic, api.NodeCell}, s.Kind), above.Kind == api.NodeReference && s.index == 1:
		d.useOutermost(s, api.DeclTable)
	case s.Kind == api.NodeName && above.Kind == api.NodeNames:
		d.useColumn(s, d.up(s, 2))
	case s.Kind == api.NodeName && above.Kind == api.NodeReference:
		d.useColumn(s, above)
	case s.Kind == api.NodeName:
		d.useFirst(s, func(other api.Declaration) bool { return d.visibleAt(s, other) })
	}
}

// useFirst lets a node use the first declaration with its name that can be used.
func (d *definition) useFirst(s spot, usable func(other api.Declaration) bool) {
	d.uses[s.number] = slices.IndexFunc(d.made, func(other api.Declaration) bool { return other.Name == s.Text && usable(other) })
	if d.uses[s.number] == -1 {
		d.report(s, api.DiagUnknown)
	}
}

func (d *definition) useOutermost(s spot, kind int) {
	d.useFirst(s, func(other api.Declaration) bool { return other.Owner == -1 })
	if use := d.uses[s.number]; use >= 0 && d.made[use].Kind != kind {
		d.uses[s.number] = -1
		d.report(s, api.DiagKind)
	}
}

func (d *definition) useColumn(s, table spot) {
	if use := d.uses[table.number]; use >= 0 {
		d.useFirst(s, func(other api.Declaration) bool {
			return other.Kind == api.DeclColumn && other.Owner == d.made[use].Node
		})
	}
}

// visible returns the variables that a NodeName in the place of a node could use.
func (d *definition) visible(s spot) []int {
	for _, number := range append(slices.Clone(s.above), s.number) {
		if kind := d.spots[number].Kind; kind == api.NodeColumns || kind == api.NodeColumn {
			return nil
		}
	}
	var all []int
	for index, declaration := range d.made {
		if d.visibleAt(s, declaration) {
			all = append(all, index)
		}
	}
	return all
}

// author writes random programs. In each line S, T, C, V and N stand for names of sorts, tables, columns, variables and anything.
type author struct {
	random *rand.Rand
	errors int // of 100 names so many are of any kind
}

var pools = map[byte]string{'S': "s t", 'T': "r c g", 'C': "a b", 'V': "x y z", 'N': "i j k o", '*': "s t r c g a b x y z i j k o"}

func (a *author) name(pool byte) string {
	if a.random.Intn(100) < a.errors {
		pool = '*'
	}
	all := strings.Fields(pools[pool])
	return all[a.random.Intn(len(all))]
}

func (a *author) fill(line string) string {
	var text strings.Builder
	for i := range len(line) {
		if _, ok := pools[line[i]]; ok && line[i] != '*' {
			text.WriteString(a.name(line[i]))
		} else {
			text.WriteByte(line[i])
		}
	}
	return text.String()
}

func (a *author) pick(lines ...string) string {
	return a.fill(lines[a.random.Intn(len(lines))])
}

func (a *author) declaration() string {
	if a.random.Intn(3) == 0 {
		head := a.pick("operation N() ", "operation N(V: S) ", "operation N(V: S, V: S) ordered ", "operation N(V in 0..2, V: S) ")
		return head + a.block(0)
	}
	return a.pick("sort S 2; ", "sort S 3; ",
		"relation T(C: S, C: S); ", "relation T(C: S); ", "counter T(C: S) in 0..2; ", "set T(C: S, C: S) addwins; ", "register T() in 0..1 last; ",
		"invariant N: key T(C, C); ", "invariant N: key T(C); ", "invariant N: reference T(C) to T; ", "invariant N: reference T(C) to T hide; ", "invariant N: count T(C) >= 1; ", "invariant N: count T() <= -1; ", "invariant N: acyclic T; ",
		"invariant N: all(V: S) T(V) + 2 * sum(V: S, V: S) T(V, V) <= 1; ", "invariant N: all(V: S, V: S) -sum(V: S) T(V, 0) - 3 * T(V) >= 1; ", "invariant N: all() sum(V: S) T(V) <= 1; ")
}

func (a *author) block(depth int) string {
	text := "{ "
	for range a.random.Intn(4) {
		if depth < 3 && a.random.Intn(3) == 0 {
			text += a.pick("for V: S ", "for V: S where V == V ", "for V: S where not V < 1 and 0 == 0 ") + a.block(depth+1)
		} else {
			text += a.pick("require V == V; ", "hold T(V) - 2 * sum(V: S) T(V, 1) <= V; ", "hold sum(V: S, V: S) T(V, V) >= 1; ", "insert T(V); ", "delete T(V, V); ", "add 1 - V to T(V); ", "put T(V, 1); ", "drop T(); ", "assign T(V) = V * 2; ")
		}
	}
	return text + "} "
}

func (a *author) program(declarations int) string {
	text := ""
	for range declarations {
		text += a.declaration()
	}
	return text
}

// accepted returns random programs without diagnostics.
func accepted(count int) []string {
	a := &author{random: rand.New(rand.NewSource(6))}
	base := "sort s 2; sort t 3; relation r(a: s, b: s); relation c(b: t, a: s); counter g(a: s, b: s) in 0..1; operation k(x: s, y: t, z in 0..1) { for xx: s { insert r(xx, x); hold sum(u: t) c(u, xx) <= z; } } "
	var all []string
	for len(all) < count {
		text := base + a.program(1+a.random.Intn(2))
		n, _, _ := parser.Parse(text)
		if _, wrong, e := names.Resolve(n); e == api.OK && len(wrong) == 0 {
			all = append(all, text)
		}
	}
	return all
}

func TestP6_1AndP6_3Definition(t *testing.T) {
	codes := map[int]int{}
	for _, errors := range []int{0, 5, 30} {
		a := &author{rand.New(rand.NewSource(int64(errors))), errors}
		for range 200 {
			text := a.program(3 + a.random.Intn(8))
			n := parse(t, text)
			want := define(n)
			r, wrong, e := names.Resolve(n)
			if e != api.OK || !slices.Equal(r.Declarations, want.made) || !slices.Equal(r.Uses, want.uses) {
				t.Fatalf("%q:\n%v %v, not\n%v %v", text, r.Declarations, r.Uses, want.made, want.uses)
			}
			if !slices.Equal(wrong, want.wrong) {
				t.Fatalf("%q:\n%v, not\n%v", text, wrong, want.wrong)
			}
			for _, d := range wrong {
				codes[d.Code]++
			}
			if a.random.Intn(10) > 0 {
				continue
			}
			for _, s := range want.spots {
				if got := names.Visible(n, s.number); !slices.Equal(got, want.visible(s)) {
					t.Fatalf("%q: at the node %d %v is visible, not %v", text, s.number, got, want.visible(s))
				}
			}
			if !reflect.DeepEqual(n, parse(t, text)) {
				t.Fatalf("%q: the tree has changed", text)
			}
		}
	}
	for _, code := range []int{api.DiagDeclared, api.DiagUnknown, api.DiagKind} {
		if codes[code] < 100 {
			t.Errorf("the code %d was found %d times", code, codes[code])
		}
	}
}
