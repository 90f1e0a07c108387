package checker_test

import (
	"fmt"
	"strconv"
	"strings"
	"testing"

	"confluent/api"
	"confluent/checker"
)

var codes = map[int]string{api.DiagUnknown: "unknown", api.DiagDeclared: "declared", api.DiagKind: "kind", api.DiagMany: "many", api.DiagSize: "size", api.DiagColumns: "columns", api.DiagSort: "sort", api.DiagType: "type", api.DiagValue: "value", api.DiagCycle: "cycle", api.DiagNodes: "nodes", api.DiagDepth: "depth"}

// unmarked returns a text without its marks, and the diagnostics that the marks stand for.
// A mark is [codes|nodes]: the node is what stands in it, and behind kind and declared there is their Text.
func unmarked(marked string) (string, []string) {
	var text strings.Builder
	var want []string
	var open [][2]int // what is open, as the first of its diagnostics and At
	for rest := marked; rest != ""; {
		switch rest[0] {
		case '[':
			list, behind, _ := strings.Cut(rest[1:], "|")
			open = append(open, [2]int{len(want), text.Len()})
			want = append(want, strings.Split(list, ", ")...)
			want = append(want, "")
			rest = behind
		case ']':
			last := open[len(open)-1]
			open = open[:len(open)-1]
			for i := last[0]; want[i] != ""; i++ {
				want[i] += fmt.Sprintf(" %d-%d", last[1], text.Len())
			}
			rest = rest[1:]
		default:
			text.WriteByte(rest[0])
			rest = rest[1:]
		}
	}
	var all []string
	for _, w := range want {
		if w != "" {
			all = append(all, w)
		}
	}
	return text.String(), all
}

func show(wrong []api.Diagnostic) []string {
	var all []string
	for _, d := range wrong {
		text := codes[d.Code]
		if d.Text != "" {
			text += " " + d.Text
		}
		all = append(all, fmt.Sprintf("%s %d-%d", text, d.At, d.End))
	}
	return all
}

// check checks programs with marks at the nodes in which something is wrong.
func check(t *testing.T, marked ...string) {
	t.Helper()
	for _, m := range marked {
		text, want := unmarked(m)
		p, wrong, e := checker.Check(text)
		if got := show(wrong); e != api.OK || strings.Join(got, ", ") != strings.Join(want, ", ") {
			t.Errorf("%s\nhas the diagnostics %v, %d, not %v", text, got, e, want)
		}
		if len(want) > 0 && (len(p.Tree.Kids) > 0 || len(p.Sorts) > 0 || len(p.Tables) > 0 || len(p.Invariants) > 0 || len(p.Procedures) > 0) {
			t.Errorf("%s\nis the program %v", text, p)
		}
		if len(want) == 0 && p.Tree.Kind != api.NodeProgram {
			t.Errorf("%s\nhas no program", text)
		}
	}
}

func TestUnmarked(t *testing.T) {
	text, want := unmarked("a [kind b, size|b [many|c] d] [type|e]")
	if got := strings.Join(want, ", "); text != "a b c d e" || got != "kind b 2-7, size 2-7, many 4-5, type 8-9" {
		t.Errorf("%q %s", text, got)
	}
}

func TestP8_1Sorts(t *testing.T) {
	check(t, "", "sort s 1; sort t 6; sort u 02; sort v 0003;",
		"sort s [size|0]; sort t [size|7]; sort u [size|9999]; sort v [size|00];",
		"sort a 1; sort b 1; sort c 1; sort d 1; [many|sort e 1;]",
		"sort a 1; relation r(); sort b 1; sort c 1; operation o() {} sort d 1; [many|sort e [size|0];] [many|sort f [size|7];] [many|sort g 2;]")
}

func TestP8_1Tables(t *testing.T) {
	twelve := ""
	for i := range 12 {
		twelve += []string{"relation t%d(); ", "counter t%d() in 0..1; ", "set t%d() addwins; ", "register t%d() in 0..1 multi; "}[i%4]
		twelve = strings.Replace(twelve, "%d", strconv.Itoa(i), 1)
	}
	check(t, twelve, twelve+"[many|relation a();] [many|set b() addwins;] [many|counter d() in 0..1;] sort s 2; [many|register c(a: s) in 0..1 last;]")
	const sorts = "sort s 4; sort t 6; sort o 1; "
	check(t,
		// The strict tables have 128 cells, the convergent ones 64.
		sorts+"relation a(x: s, y: s, z: s); set b(x: s, y: s, z: s) addwins; counter c(x: s, y: s, z: s) in 0..1;",
		sorts+"relation a(x: s, y: s, z: s); set b(x: s, y: s) addwins; counter c(x: s, y: s, z: s) in 0..1; register d(x: s, y: s, z: o) in 0..1 last; set e(x: s, y: s) removewins; [many|relation f();] register g(x: s, y: s) in 0..1 multi; [many|register h(x: o) in 0..1 multi;] relation k(); set l(x: t) addwins;",
		sorts+"counter c(x: s, y: s, z: s) in 0..1; [many|relation a(x: t, y: t, z: t);] relation b(x: t, y: t, z: t);",
		sorts+"[many|counter c(x: t, y: t, z: t) in 0..1;] relation a(); set b(x: s, y: s, z: s) addwins; [many|set d() removewins;]",
		sorts+"[many|relation a(x: t, y: t, z: t);] [many|set b(x: t, y: t, z: t) addwins;] relation c(); set d() addwins;",
		sorts+"[many|register a(x: t, y: t, z: t) in 0..1 last;] relation b(x: s, y: s, z: s); counter c(x: s, y: s, z: s) in 0..1;",
		// Products are computed with what is declared, also where this is not allowed.
		"sort z [size|0]; sort h [size|9999]; relation a[many|(a: h, b: h, c: h, d: h, e: h, f: h, g: z)]; relation b[many|(g: z, a: h, b: h, c: h, d: h, e: h, f: h)]; [many|relation c[many|(a: h, b: h, c: h, d: h, e: h, f: h)];] relation d();",
		"sort h [size|8]; [many|set a[many|("+columns(64, "h")+")] addwins;] set b() addwins;",
		"sort k 2; sort h [size|4096]; [many|relation a[many|(a: h, b: h, c: h, d: h, e: h, f: k, g: k, h: k, i: k)];]",
		"sort o 1; relation a(x: o, y: o, z: o); relation b[many|(w: o, x: o, y: o, z: o)]; set c[many|("+columns(99, "o")+")] addwins;")
}

func columns(count int, sort string) string {
	var all []string
	for i := range count {
		all = append(all, "c"+strconv.Itoa(i)+": "+sort)
	}
	return strings.Join(all, ", ")
}

func TestP8_1ColumnsAndRanges(t *testing.T) {
	check(t,
		"sort s 1; counter c(a: s, b: s, c: s) in -9999..9999; counter d() in 0..0; register g[many|(a: s, b: s, c: s, d: s)] in -1..0 last;",
		"counter c() in [size|1..0]; counter d() in [size|-1..-2]; register g() in [size|0..-1] last; register h() in [size|9999..-9999] multi; operation o(n in [size|3..2], m in 2..2) {}",
		"sort s 1; counter c() in 0..1; invariant i: all(a: s, b: s, c: s) sum(x: s, y: s, z: s) c() <= 1; invariant j: all[many|(a: s, b: s, c: s, d: s)] c() + sum[many|(w: s, x: s, y: s, z: s)] c() <= 1; operation o() { hold c() - sum[many|(w: s, x: s, y: s, z: s)] c() <= 1; }",
		"sort s 2; operation o(p: s, q: s, n in 0..1) {} operation u[many|(p: s, q: s, n in 0..1, m in 1..1)] {}")
}

func TestP8_1Invariants(t *testing.T) {
	twelve := "counter c() in 0..1; "
	for i := range 12 {
		twelve += fmt.Sprintf("invariant i%d: all() c() <= 1; ", i)
	}
	check(t, twelve, twelve+"[many|invariant j: all() c() <= 1;] sort s 2; relation r(a: s, b: s); [many|invariant k: [kind c, columns|acyclic c];] [many|invariant l: acyclic r;]")
}

// filled returns declarations whose constraints are so many: 4 of strict tables, and the others of a few invariants.
func filled(t *testing.T, constraints int) string {
	text := "sort s 6; sort t 5; sort u 2; relation fill(); relation full(); "
	left := constraints - 4
	for _, c := range []struct {
		count   int
		columns string
	}{{216, "x: s, y: s, z: s"}, {125, "x: t, y: t, z: t"}, {60, "x: s, y: t, z: u"}, {36, "x: s, y: s"}, {12, "x: s, y: u"}, {5, "x: t"}, {2, "x: u"}, {1, ""}} {
		for ; left >= c.count; left -= c.count {
			text += fmt.Sprintf("invariant f%d: all(%s) fill() <= 1; ", len(text), c.columns)
		}
	}
	if left != 0 {
		t.Fatalf("%d are left of %d", left, constraints)
	}
	return text
}

func TestP8_1Constraints(t *testing.T) {
	// The tables have 30, 6, 5, 1 and 0 strict cells.
	const tables, ofTables = "relation r(a: s, b: t); relation q(a: s); counter c(a: t) in 0..1; relation e(); set m(a: s) addwins; ", 84
	for _, c := range []struct {
		invariant string // with its marks
		count     int
	}{
		{"key r(a)", 6}, {"key r(b)", 5}, {"key r(a, b)", 30}, {"key r(b, a)", 30}, {"key r()", 1}, {"key e()", 1}, {"key r(b, a, [declared b|b], [declared a|a])", 30}, {"key q(a, [declared a|a])", 6},
		{"count r(a) <= 1", 6}, {"count r(b) >= 1", 5}, {"count r(a, b) <= 1", 30}, {"count r() >= 0", 1}, {"count r(a, [declared a|a]) >= 0", 6},
		{"reference r(a) to q", 30}, {"reference r(a) to q hide", 0}, {"reference q(a) to [kind q|q]", 6},
		{"[sort|acyclic r]", 1}, {"all(x: s) q(x) <= 1", 6}, {"all(x: t, y: s) sum(z: s) q(z) <= 1", 30}, {"all() e() <= 1", 1},
		{"[kind c|key c(a)]", 5}, {"[kind m|count m(a) <= 1]", 6}, {"[kind c|reference c([sort|a]) to q]", 5}, {"[kind m|reference m(a) to q hide]", 0},
	} {
		before := filled(t, 512-c.count-ofTables) + tables
		check(t, before+"invariant i: "+c.invariant+"; invariant j: reference r(a) to q hide; operation o() {}")
		before = filled(t, 513-c.count-ofTables) + tables
		const behind = " invariant j: reference r(a) to q hide; invariant k: all(x: s, y: s, z: s) e() <= 1; invariant l: key e();"
		if c.count > 0 {
			check(t, before+"[many|invariant i: "+c.invariant+";]"+behind)
		} else {
			// The last invariant in front of it is the first one with which there are too many.
			last := strings.LastIndex(before, "invariant ")
			end := last + strings.Index(before[last:], ";") + 1
			check(t, before[:last]+"[many|"+before[last:end]+"]"+before[end:]+"invariant i: "+c.invariant+";"+behind)
		}
	}
	check(t,
		// The strict tables alone have too many: the first invariant is reported, whatever it adds.
		"sort s 6; sort t 2; relation q(a: s); [many|relation r(a: s, b: s, c: s);] relation p(a: s, b: s); [many|invariant i: reference r(a) to q hide;] invariant j: key q(a); relation l();",
		"sort s 6; sort t 2; [many|relation r(a: s, b: s, c: s);] relation p(a: s, b: t); relation p2(a: s, b: t); counter c(a: t, b: t) in 0..1; invariant i: reference p(a) to q hide; relation q(a: s); [many|invariant j: key r(a, b);] invariant k: key q();",
		"sort h [size|9999]; relation e(); [many|invariant i: all(x: h, y: h, z: h) e() <= 1;] invariant j: all[many|(a: h, b: h, c: h, d: h, e: h, f: h)] e() <= 1;",
		"sort z [size|0]; sort h [size|9999]; relation e(); invariant i: all(x: h, y: h, z: z) e() <= 1; invariant j: all[many|(x: z, a: h, b: h, c: h, d: h, e: h, f: h)] e() <= 1;")
}

const kinds = "sort s 2; sort t 3; relation r(a: s, b: s); relation q(a: s); relation e(); relation d(a: s, b: t); relation h(a: s, b: s, c: s); counter c(a: s) in 0..3; set m(a: s) addwins; set n(a: s, b: s) removewins; register g(a: s) in 0..3 last; register k(a: s, b: t) in 0..3 multi; "

func TestP8_1Relations(t *testing.T) {
	check(t, kinds+"invariant i: key r(b, a); invariant j: count q(a) >= 1; invariant l: acyclic r; invariant o: reference r(b) to q; invariant u: key e();",
		kinds+"invariant i: [kind c|key c(a)]; invariant j: [kind m|count m() <= 1]; invariant l: [kind n|acyclic n]; invariant o: [kind g|reference g(a) to q]; invariant p: [kind k, sort|acyclic k]; invariant u: [kind m, columns|acyclic m];",
		kinds+"invariant i: [columns|acyclic q]; invariant j: [columns|acyclic e]; invariant l: [sort|acyclic d]; invariant o: [columns|acyclic h]; invariant p: acyclic r;",
		kinds+"invariant i: key r(a, [declared a|a]); invariant j: count h(b, a, [declared b|b], c, [declared b|b], [declared a|a]) <= 1; invariant l: [kind n|key n(a, [declared a|a], b)];")
}

func TestP8_1References(t *testing.T) {
	check(t, kinds+"invariant i: reference r(a) to q; invariant j: reference d(a) to q hide; invariant l: reference h(c) to q hide;",
		kinds+"invariant i: reference d([sort|b]) to q; invariant j: reference d([sort|b]) to q hide; invariant l: [kind k|reference k([sort|b]) to q];",
		kinds+"invariant i: reference q(a) to [columns|r]; invariant j: reference d(b) to [columns|e]; invariant l: reference d(b) to [columns|h]; invariant o: reference e2(a) to [columns|d]; relation e2(a: t);",
		kinds+"invariant i: reference q(a) to [kind c|c]; invariant j: reference d(b) to [kind m|m]; invariant l: reference d(b) to [kind g|g] hide; invariant o: reference d(b) to [kind n|n]; invariant p: reference d(a) to [kind k|k];",
		kinds+"invariant i: reference q(a) to [kind q|q]; invariant j: reference r(a) to [kind r|r]; invariant l: [kind c|reference c(a) to [kind c|c]]; invariant o: [kind n|reference n(b) to [kind n|n]];",
		kinds+"invariant i: [kind c|reference c(a) to [columns|r]]; invariant j: [kind k|reference k(b) to [kind m|m]];")
}

func TestP8_1Cycles(t *testing.T) {
	const tables = "sort s 2; relation a(x: s); relation b(x: s); relation c(x: s); relation d(x: s); counter e(x: s) in 0..1; "
	check(t,
		tables+"invariant i: reference a(x) to b hide; invariant j: reference b(x) to c hide; invariant k: reference a(x) to c hide; invariant l: reference c(x) to d hide; invariant m: reference a(x) to b hide;",
		tables+"invariant i: [cycle|reference a(x) to b hide]; invariant j: [cycle|reference b(x) to a hide];",
		tables+"invariant i: reference a(x) to b; invariant j: reference b(x) to a hide;",
		tables+"invariant i: reference a(x) to b; invariant j: reference b(x) to a; invariant k: reference c(x) to [kind c|c];",
		tables+"invariant i: [cycle|reference a(x) to [kind a|a] hide]; invariant j: reference b(x) to a hide;",
		tables+"invariant i: [cycle|reference c(x) to a hide]; invariant j: [cycle|reference a(x) to b hide]; invariant k: reference d(x) to a hide; invariant l: [cycle|reference b(x) to c hide]; invariant m: reference c(x) to a;",
		tables+"invariant i: [cycle|reference a(x) to b hide]; invariant j: [cycle|reference b(x) to a hide]; invariant k: [cycle|reference c(x) to d hide]; invariant l: [cycle|reference d(x) to c hide]; invariant m: reference a(x) to c hide;",
		// Also a reference in which something else is wrong leads to its target.
		tables+"invariant i: [cycle|reference a(x) to [kind e|e] hide]; invariant j: [kind e, cycle|reference e(x) to a hide]; invariant k: reference b(x) to a hide;",
		tables+"relation f(x: s, y: s); invariant i: [cycle|reference a(x) to [columns|f] hide]; invariant j: [cycle|reference f(y) to a hide];")
}

func TestP8_1Totals(t *testing.T) {
	const tables = "sort s 6; sort o 1; counter c() in 0..3; counter d(a: s) in 0..1; set m(a: s) addwins; register g() in 0..1 last; relation r(a: s); "
	for _, around := range []string{"invariant i: all(v: s) %s <= 1;", "operation u(v: s) { hold %s >= 0; }", "operation u(v: s) { for w: s where w != v { hold %s >= 0; } }"} {
		for _, total := range []string{
			"c()", "-c() + c() - r(v)", "1000 * c()", "-1000 * c()", "500 * c() + 500 * c()", "500 * c() - 500 * c()", "999 * c() - c()", "4 * sum(x: s, y: s, z: s) c() + 136 * c()", "27 * sum(x: s, y: s) d(x) + 4 * sum(z: s) d(z) + 4 * r(v)", "1000 * sum() c()", "1000 * sum(x: o, y: o) c()",
			"[size|1001 * c()]", "[size|-1001 * c()]", "[size|500 * c() + 501 * c()]", "[size|500 * c() - 501 * c()]", "[size|1000 * c() - c()]", "[size|9999 * c() + [size|0] * c()]", "[size|4 * sum(x: s, y: s, z: s) c() + 137 * c()]", "[size|28 * sum(x: s, y: s) d(x)]", "[size|c() - 9999 * sum(x: s, y: s, z: s) d(x)]",
			"[size|5 * sum[many|(x: s, y: s, z: s, w1: s)] c()]", "[size|9999 * sum[many|(" + columns(20, "s") + ")] c()]",
			"[size|0] * c()", "-[size|0] * sum(x: s, y: s, z: s) c()", "1000 * c() + [size|0] * c() - [size|00] * d(v)",
			"[kind m|m(v)]", "c() - [kind g|g()]", "2 * sum(x: s) [kind m|m(x)] + [kind g, columns|g(v)] - [columns|d()] + sum(x: o) d([sort|x]) + [columns|c(0)] + d([size|6]) + d(5)",
		} {
			check(t, tables+fmt.Sprintf(around, total))
		}
	}
	check(t, "sort z [size|0]; sort h [size|9999]; counter c() in 0..1; invariant i: all() 9999 * sum(x: h, y: z) c() + 1000 * sum(x: z, y: h, w: h) c() + 1000 * c() <= 1; operation o() { hold [size|1000 * c() - sum(x: h, y: h, w: h) c()] <= 1; }")
}
