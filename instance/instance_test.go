package instance_test

import (
	"fmt"
	"reflect"
	"slices"
	"strings"
	"testing"

	"confluent/api"
	"confluent/checker"
	"confluent/instance"
	"confluent/syntax"
)

const (
	chapter = "sort s 2; operation o(p: s, n in -1..1) { require n != 0; for x: s where x != p { require x == 1; } }"
	several = "sort s 2; sort t 3; relation r(a: s); counter c(a: t) in 0..9; invariant i: count r() <= 1; " +
		"operation none() { } operation never() ordered { require 1 == 2; } operation o(n in -12..-10, u: t, m in 9999..9999) { require n > -12 or u == 2; add 1 to c(u); } operation p(x: s, y: s, z: s) { require x != y and y != z; insert r(x); } operation wide(n in -9999..-9990) { for x: s { for y: t where y != 0 { } } }"
)

func TestP10_1Chapter(t *testing.T) {
	p := compile(t, chapter)
	if got, want := instance.Domain(p, 0), [][]int{{0, -1}, {0, 0}, {0, 1}, {1, -1}, {1, 0}, {1, 1}}; !same(got, want) {
		t.Error(got)
	}
	if got, want := instance.All(p, 0), [][]int{{0, -1}, {0, 1}}; !same(got, want) {
		t.Error(got)
	}
	if got := instance.Format(p, 0, []int{0, -1}); got != "o(0, -1)" {
		t.Error(got)
	}
}

func TestP10_1Domain(t *testing.T) {
	p := compile(t, several)
	s := []int{0, 1}
	numbers := []int{-9999, -9998, -9997, -9996, -9995, -9994, -9993, -9992, -9991, -9990}
	for i, want := range [][][]int{{{}}, {{}}, products([][]int{{-12, -11, -10}, {0, 1, 2}, {9999}}), products([][]int{s, s, s}), products([][]int{numbers})} {
		got := instance.Domain(p, i)
		if !same(got, want) {
			t.Errorf("%d: %v, not %v", i, got, want)
		}
		if len(got) != checker.Domain(p, i) || !slices.IsSortedFunc(got, slices.Compare) {
			t.Errorf("%d: %d argument lists", i, len(got))
		}
	}
	for _, procedure := range []int{-1, 5, -1 << 63, 1<<63 - 1} {
		if got := instance.Domain(p, procedure); len(got) > 0 {
			t.Error(procedure, got)
		}
		if got := instance.All(p, procedure); len(got) > 0 {
			t.Error(procedure, got)
		}
		if instance.Possible(p, procedure, nil) || instance.Format(p, procedure, nil) != "" {
			t.Error(procedure, "is possible")
		}
	}
	if got := instance.Domain(compile(t, "operation o(n in 1..256) { }"), 0); len(got) != 256 || got[255][0] != 256 {
		t.Error(got)
	}
	if got := instance.Domain(compile(t, ""), 0); len(got) > 0 {
		t.Error(got)
	}
}

// lists returns lists of arguments of which some are possible.
func lists() [][]int {
	numbers := []int{-10000, -9990, -9989, -13, -12, -1, 0, 1, 2, 3, 1<<63 - 1}
	all := [][]int{nil}
	for _, a := range numbers {
		all = append(all, []int{a})
		for _, b := range numbers {
			all = append(all, []int{a, b}, []int{a, b, 9999}, []int{a, b, 0}, []int{0, a, b}, []int{0, 0, a, b})
		}
	}
	return all
}

func TestP10_1Possible(t *testing.T) {
	p := compile(t, several)
	for i, o := range p.Procedures {
		domain := instance.Domain(p, i)
		possible := 0
		for _, arguments := range lists() {
			want := contains(domain, arguments)
			if got := instance.Possible(p, i, arguments); got != want {
				t.Errorf("%s%v is possible: %v", o.Name, arguments, got)
			}
			if want {
				possible++
			}
		}
		if possible == 0 {
			t.Errorf("no list for %s is possible", o.Name)
		}
	}
}

func TestP10_2Enabled(t *testing.T) {
	p := compile(t, several)
	for i, want := range [][][]int{{{}}, nil, {{-12, 2, 9999}, {-11, 0, 9999}, {-11, 1, 9999}, {-11, 2, 9999}, {-10, 0, 9999}, {-10, 1, 9999}, {-10, 2, 9999}}, {{0, 1, 0}, {1, 0, 1}}, instance.Domain(p, 4)} {
		if got := instance.All(p, i); !same(got, want) {
			t.Errorf("%d enables %v, not %v", i, got, want)
		}
	}
}

func TestP10_2Loops(t *testing.T) {
	const head = "sort s 3; sort one 1; relation r(a: s); operation o(p: s) { "
	for body, want := range map[string][]int{
		"":                                                       {0, 1, 2},
		"require p != 1;":                                        {0, 2},
		"require p != 1; require p != 2;":                        {0},
		"for x: s { require x != p; }":                           nil,
		"for x: s { require x == p; }":                           nil,
		"for x: one { require p == 2; }":                         {2},
		"for x: s where x == p { require x != 0; }":              {1, 2},
		"for x: s where x != x { require 1 == 2; }":              {0, 1, 2},
		"for x: s where 1 == 2 { for y: s { require 1 == 2; } }": {0, 1, 2},
		"for x: s where x == p { for y: s where y != x { require y != 2; } }":                 {2},
		"for x: s where x == 1 { for y: s where y == p { require y != x; } }":                 {0, 2},
		"for x: s { for y: s where x != y { require not (x == p and y == 2); } }":             {2},
		"for x: s { insert r(x); delete r(p); hold r(x) <= 0; for y: s where y == x { } }":    {0, 1, 2},
		"for x: s where x == 0 { } require p == 1; for x: s where x == 2 { require x != p; }": {1},
	} {
		p := compile(t, head+body+" }")
		var all [][]int
		for _, value := range want {
			all = append(all, []int{value})
		}
		if got := instance.All(p, 0); !same(got, all) {
			t.Errorf("%s enables %v, not %v", body, got, all)
		}
	}
}

func TestP10_2Errors(t *testing.T) {
	p := compile(t, several)
	for i, c := range []struct {
		procedure int
		arguments []int
		want      api.Errno
	}{
		{-1, nil, api.ErrNotFound}, {5, nil, api.ErrNotFound}, {1 << 62, []int{7}, api.ErrNotFound}, {-1 << 63, nil, api.ErrNotFound},
		{0, []int{0}, api.ErrRange}, {1, []int{0}, api.ErrRange}, {2, nil, api.ErrRange}, {2, []int{-12, 0}, api.ErrRange}, {2, []int{-13, 0, 9999}, api.ErrRange}, {2, []int{-9, 0, 9999}, api.ErrRange}, {2, []int{-12, 3, 9999}, api.ErrRange}, {2, []int{-12, -1, 9999}, api.ErrRange}, {2, []int{-12, 0, 9999, 0}, api.ErrRange}, {3, []int{1, 1, 2}, api.ErrRange},
		{0, nil, api.OK}, {1, nil, api.OK}, {2, []int{-12, 2, 9999}, api.OK}, {3, []int{1, 0, 1}, api.OK}, {4, []int{-9999}, api.OK},
	} {
		got, e := instance.Enabled(p, c.procedure, c.arguments)
		if e != c.want || got != (e == api.OK && c.procedure != 1) {
			t.Errorf("%d: %v, %d", i, got, e)
		}
	}
}

func TestP10_3Texts(t *testing.T) {
	p := compile(t, several)
	for i, o := range p.Procedures {
		for _, arguments := range instance.Domain(p, i) {
			want := o.Name + "(" + strings.ReplaceAll(strings.Trim(fmt.Sprint(arguments), "[]"), " ", ", ") + ")"
			got := instance.Format(p, i, arguments)
			if got != want {
				t.Errorf("%q, not %q", got, want)
			}
			for _, text := range []string{got, strings.ReplaceAll(got, " ", ""), "\t" + strings.ReplaceAll(strings.ReplaceAll(got, "-", "- # minus\n"), "(", " ( ") + "#"} {
				if procedure, read, e := instance.Parse(p, text); procedure != i || !slices.Equal(read, arguments) || e != api.OK {
					t.Errorf("%q is %d %v, %d", text, procedure, read, e)
				}
			}
		}
		for _, arguments := range lists() {
			if got := instance.Format(p, i, arguments); (got != "") != instance.Possible(p, i, arguments) {
				t.Errorf("%d %v has the text %q", i, arguments, got)
			}
		}
	}
}

func TestP10_3Parse(t *testing.T) {
	p := compile(t, several)
	long := strings.Repeat(" ", api.MaxSource-len("wide(-9999)"))
	for _, c := range []struct {
		text      string
		procedure int
		arguments []int
		want      api.Errno
	}{
		{"none()", 0, nil, api.OK}, {"never ( )", 1, nil, api.OK}, {"o(-12,2,9999)", 2, []int{-12, 2, 9999}, api.OK}, {"o(-0012, 0002, 9999) # ..", 2, []int{-12, 2, 9999}, api.OK}, {"p(-0, 1, - 00)", 3, []int{0, 1, 0}, api.OK}, {"wide(-9999)" + long, 4, []int{-9999}, api.OK},
		{"", 0, nil, api.ErrSyntax}, {"none", 0, nil, api.ErrSyntax}, {"none(", 0, nil, api.ErrSyntax}, {"none)", 0, nil, api.ErrSyntax}, {"(1)", 0, nil, api.ErrSyntax}, {"none();", 0, nil, api.ErrSyntax}, {"none()none()", 0, nil, api.ErrSyntax}, {"p(0, 1, 0,)", 0, nil, api.ErrSyntax}, {"p(, 1, 0)", 0, nil, api.ErrSyntax}, {"p(0 1 0)", 0, nil, api.ErrSyntax}, {"p(--0, 1, 0)", 0, nil, api.ErrSyntax}, {"p(+0, 1, 0)", 0, nil, api.ErrSyntax}, {"p(0-, 1, 0)", 0, nil, api.ErrSyntax}, {"p(0, 1, -)", 0, nil, api.ErrSyntax}, {"p(x, 1, 0)", 0, nil, api.ErrSyntax}, {"P(0, 1, 0)", 0, nil, api.ErrSyntax}, {"operation()", 0, nil, api.ErrSyntax}, {"to(1)", 0, nil, api.ErrSyntax}, {"1(1)", 0, nil, api.ErrSyntax}, {"-p(0, 1, 0)", 0, nil, api.ErrSyntax}, {"wide(-9999) " + long, 0, nil, api.ErrSyntax}, {"unknown(1", 0, nil, api.ErrSyntax},
		{"unknown()", 0, nil, api.ErrName}, {"r(1)", 0, nil, api.ErrName}, {"s(99999)", 0, nil, api.ErrName}, {"i()", 0, nil, api.ErrName}, {"operations(-1)", 0, nil, api.ErrName}, {"a_name_of_more_than_16()", 0, nil, api.ErrName},
		{"none(0)", 0, nil, api.ErrRange}, {"p()", 0, nil, api.ErrRange}, {"p(0, 1)", 0, nil, api.ErrRange}, {"p(0, 1, 0, 1)", 0, nil, api.ErrRange}, {"p(0, 1, 2)", 0, nil, api.ErrRange}, {"p(0, 1, -1)", 0, nil, api.ErrRange}, {"o(-13, 0, 9999)", 0, nil, api.ErrRange}, {"o(12, 0, 9999)", 0, nil, api.ErrRange}, {"o(-12, 0, 09999)", 0, nil, api.ErrRange}, {"p(00000, 1, 0)", 0, nil, api.ErrRange}, {"p(0, 1, -00000)", 0, nil, api.ErrRange}, {"wide(-10000)", 0, nil, api.ErrRange}, {"p(18446744073709551616, 1, 0)", 0, nil, api.ErrRange},
	} {
		procedure, arguments, e := instance.Parse(p, c.text)
		if procedure != c.procedure || !slices.Equal(arguments, c.arguments) || e != c.want {
			t.Errorf("%.40q is %d %v, %d, not %d %v, %d", c.text, procedure, arguments, e, c.procedure, c.arguments, c.want)
		}
	}
}

// others returns programs that checker.Tree returns for no tree.
func others(t *testing.T) []api.Program {
	broken, _, _ := checker.Check("operation o() { require 1; }")
	all := []api.Program{{}, broken, {Tree: api.Node{Kind: api.NodeSort}}}
	add := func(change func(p *api.Program)) {
		p := compile(t, several)
		change(&p)
		all = append(all, p)
	}
	add(func(p *api.Program) { p.Tree = p.Tree.Kids[0] })
	add(func(p *api.Program) { p.Tree = api.Node{Kind: api.NodeProgram} })
	add(func(p *api.Program) { p.Tree.Kids = p.Tree.Kids[1:] })
	add(func(p *api.Program) { p.Tree.Kids[0].Text = "z" })
	add(func(p *api.Program) { p.Tree.Kids[0].Kids[0].Text = "9" })
	add(func(p *api.Program) { p.Sorts[0].Size++ })
	add(func(p *api.Program) { p.Sorts[1].Name = "" })
	add(func(p *api.Program) { p.Sorts = append(p.Sorts, api.Sort{Name: "x", Size: 1}) })
	add(func(p *api.Program) { p.Sorts = nil })
	add(func(p *api.Program) { p.Tables[0].Name = "z" })
	add(func(p *api.Program) { p.Tables[0].Kind = api.TableCounter })
	add(func(p *api.Program) { p.Tables[0].Columns = []int{1} })
	add(func(p *api.Program) { p.Tables[1].Columns = nil })
	add(func(p *api.Program) { p.Tables[1].Range.Hi++ })
	add(func(p *api.Program) { p.Tables[1].First++ })
	add(func(p *api.Program) { p.Tables = p.Tables[:1] })
	add(func(p *api.Program) { p.Invariants[0].Name = "" })
	add(func(p *api.Program) { p.Invariants[0].Node-- })
	add(func(p *api.Program) { p.Invariants = nil })
	add(func(p *api.Program) { p.Procedures[0].Name = "never" })
	add(func(p *api.Program) { p.Procedures[0].Ordered = true })
	add(func(p *api.Program) { p.Procedures[0].Node = 1 << 40 })
	add(func(p *api.Program) { p.Procedures[2].Parameters[0].Range.Lo-- })
	add(func(p *api.Program) { p.Procedures[2].Parameters[0].Sort = 1 << 40 })
	add(func(p *api.Program) { p.Procedures[3].Parameters[1].Name = "x" })
	add(func(p *api.Program) { p.Procedures[3].Parameters = nil })
	add(func(p *api.Program) { p.Procedures = p.Procedures[:4] })
	add(func(p *api.Program) { p.Procedures = append(p.Procedures, p.Procedures[0]) })
	return all
}

func TestP10Programs(t *testing.T) {
	for i, p := range others(t) {
		for procedure := -1; procedure < 6; procedure++ {
			if len(instance.Domain(p, procedure)) > 0 || len(instance.All(p, procedure)) > 0 {
				t.Errorf("the operation %d of the program %d has instances", procedure, i)
			}
			for _, arguments := range [][]int{nil, {-11, 1, 9999}, {0, 1, 0}, {9}} {
				if instance.Possible(p, procedure, arguments) || instance.Format(p, procedure, arguments) != "" {
					t.Errorf("%v is possible in the program %d", arguments, i)
				}
				if got, e := instance.Enabled(p, procedure, arguments); got || e != api.ErrArg {
					t.Errorf("%v is enabled in the program %d: %v, %d", arguments, i, got, e)
				}
			}
		}
		for _, text := range []string{"none()", "p(0, 1, 0)", "", "unknown()", "p(9)"} {
			if procedure, arguments, e := instance.Parse(p, text); procedure != 0 || len(arguments) > 0 || e != api.ErrArg {
				t.Errorf("%q is in the program %d: %d %v, %d", text, i, procedure, arguments, e)
			}
		}
	}
}

// The program of a tree without places is a checked one, too, and nil slices and empty ones mean the same.
func TestP10SamePrograms(t *testing.T) {
	p := compile(t, several)
	p.Tree = syntax.Strip(p.Tree)
	p.Procedures[0].Parameters = []api.Parameter{}
	if got := instance.All(p, 3); len(got) != 2 {
		t.Error(got)
	}
	empty := api.Program{Tree: api.Node{Kind: api.NodeProgram, Kids: []api.Node{}}, Sorts: []api.Sort{}, Tables: []api.Table{}}
	if _, e := instance.Enabled(empty, 0, nil); e != api.ErrNotFound {
		t.Error(e)
	}
}

func TestP10_4Texts(t *testing.T) {
	p := compile(t, several)
	texts := map[string]bool{}
	for i := range p.Procedures {
		for _, arguments := range instance.All(p, i) {
			text := instance.Format(p, i, arguments)
			if texts[text] {
				t.Errorf("two instances are %s", text)
			}
			texts[text] = true
			procedure, read, e := instance.Parse(p, text)
			if procedure != i || !slices.Equal(read, arguments) || e != api.OK {
				t.Errorf("%s is %d %v, %d", text, procedure, read, e)
			}
		}
	}
}

func TestRulesMemory(t *testing.T) {
	p, copied := compile(t, several), compile(t, several)
	for _, list := range [][][]int{instance.Domain(p, 3), instance.All(p, 3)} {
		before := slices.Clone(list[1])
		list[0] = append(list[0], 9)
		list[0][0], list[0][2] = 7, 7
		if !slices.Equal(list[1], before) {
			t.Error("argument lists share memory")
		}
	}
	arguments := []int{0, 1, 0}
	instance.Enabled(p, 3, arguments)
	instance.Format(p, 3, arguments)
	instance.Parse(p, "p(0, 1, 0)")
	if !reflect.DeepEqual(p, copied) || !slices.Equal(arguments, []int{0, 1, 0}) {
		t.Error("arguments have changed")
	}
}

// P1: the most statements that an operation can have, for the most instances of a program, come to an end, too.
func TestP1Limits(t *testing.T) {
	nested := "sort s 6; operation o(n in 1..256) { for x: s { for y: s where x == y { for z: s where z != x { require x != z or n > 9999; require n < 250; } } } }"
	p := compile(t, nested)
	if got := instance.All(p, 0); len(got) != 249 {
		t.Error(len(got))
	}
	deep := compile(t, "sort s 1; operation o() { "+deepLoops(29)+" }")
	if got := instance.All(deep, 0); len(got) != 1 {
		t.Error(got)
	}
}

func deepLoops(levels int) string {
	text := "require 1 == 1;"
	for i := range levels {
		text = fmt.Sprint("for x", i, ": s { ", text, " }")
	}
	return text
}
