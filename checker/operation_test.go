package checker_test

import (
	"fmt"
	"strings"
	"testing"
)

func TestP8_1Cells(t *testing.T) {
	const all = "c(p) g(p) r(p, p) q(p) e() m(p) n(p, p) k(p, u)"
	for _, c := range []struct{ statement, fits string }{
		{"insert %s;", "r q e"}, {"delete %s;", "r q e"}, {"add 0 to %s;", "c"}, {"put %s;", "m n"}, {"drop %s;", "m n"}, {"assign %s = 0;", "g k"}, {"hold %s <= 0;", "c r q e"}, {"hold c(p) - 2 * sum() %s <= 0;", "c r q e"},
	} {
		for _, cell := range strings.Split(strings.ReplaceAll(all, ") ", ");"), ";") {
			table := cell[:1]
			if !strings.Contains(c.fits, table) {
				cell = "[kind " + table + "|" + cell + "]"
			}
			statement := fmt.Sprintf(c.statement, cell)
			check(t, kinds+"operation o(p: s, u: t) { "+statement+" for x: s { "+statement+" } }")
		}
	}
	check(t, kinds+"operation o(p: s, u: t, n in 0..1) { insert [columns|r()]; insert [columns|r(p)]; delete [columns|r(p, p, p)]; insert [columns|e(0)]; put [columns|n(p)]; drop [columns|m()]; add 1 to [columns|c()]; assign [columns|g()] = 1; hold [columns|c()] + [columns|q(9, u, n)] <= 1; }",
		kinds+"operation o(p: s, u: t, n in 0..1) { insert [kind c, columns|c()]; put [kind r, columns|r(n, 9, u)]; assign [kind m, columns|m(p, p)] = [type|p]; add 1 to [kind e|e()]; hold [kind m, columns|m()] <= 0; }",
		kinds+"operation o(p: s, u: t, n in 0..1) { insert r([sort|u], p); insert r(p, [sort|n]); delete d(p, u); delete d([sort|u], [sort|p]); assign k([sort|n], [sort|n]) = 0; put n([sort|u], 0); hold c([sort|u]) + d(1, [sort|p]) <= 0; add 1 to [kind k|k([sort|u], u)]; }",
		kinds+"operation o() { insert r(0, 1); insert r([size|2], [size|3]); delete d(1, 2); delete d([size|2], [size|3]); put n(0, [size|9999]); assign k(01, 002) = 0; hold c([size|2]) - d(0, [size|3]) <= 0; insert [kind c|c([size|5])]; }",
		kinds+"invariant i: all(x: s, y: t) c(x) + d(x, y) + c([sort|y]) - r([sort|y], x) + sum(z: t) d([sort|z], z) + [kind m|m([sort|y])] + c([size|2]) <= 1;",
		kinds+"operation o(p: s) { for x: t { insert d(p, x); insert d([sort|x], [sort|p]); for y: s where y != p { insert r(y, [sort|x]); hold sum(z: t) d(y, z) - d([sort|x], x) + sum(w: s, z: t) d(w, [sort|w]) <= 1; } } }",
		"sort z [size|0]; relation r(a: z); operation o(p: z) { insert r([size|0]); insert r(p); }")
}

func TestP8_1Operations(t *testing.T) {
	eight := "sort s 2; "
	for i := range 8 {
		eight += fmt.Sprintf("operation o%d() {} ", i)
	}
	check(t, eight, eight+"[many|operation p(n in [size|1..0]) { require [type|n == 0]; }] relation r(); [many|operation q(a: s) { insert [columns|r(a)]; }]",
		"operation o(n in 1..256) {}", "operation o(n in -128..127) {} operation p(n in [size|1..0]) {}", "[many|operation o(n in 1..257) {}] operation p(n in 0..9999) {} operation q() {}",
		"operation o(n in 0..15, m in 1..15) {} operation p(n in -7..7) {} operation q() {}", "operation o(n in 0..15, m in 1..15) {} operation p(n in -7..7) {} operation q() {} [many|operation u() {}] operation v() {}",
		"sort s 6; sort t 4; operation o(a: s, b: s, c: t) {} operation p(n in 0..9, m in 0..8) {} operation q(a: t, b: t, c in 1..1) {} operation u(a: s) {} [many|operation v() {}] operation w(a: s) {}",
		"[many|operation o(n in -9999..9999, m in -9999..9999, k in -9999..9999) {}]",
		// A product is too large as soon as it is, whatever comes behind.
		"operation o(n in [size|1..0], m in 0..300) {}", "[many|operation o(m in 0..300, n in [size|1..0]) {}]", "[many|operation o(m in 0..299, n in [size|1..0], k in 0..299) {}]", "operation o(m in 0..99, n in [size|1..0], k in 0..9999) {}",
		"sort z [size|0]; sort h [size|257]; operation o(a: z, b: h) {} [many|operation p(b: h, a: z) {}]",
		"sort h [size|9999]; [many|operation o[many|("+columns(50, "h")+")] {}]")
}

func TestP8_1Statements(t *testing.T) {
	const tables = "sort a 1; sort b 2; sort f 4; sort s 6; relation r(); counter c() in 0..9; set m() addwins; register g() in 0..1 last; "
	within := func(good bool, block string) {
		t.Helper()
		operation := "operation o() " + block
		if !good {
			operation = "[many|" + operation + "]"
		}
		check(t, tables+operation+" operation p() {}")
	}
	insert := func(count int) string { return strings.Repeat("insert r();", count) }
	// 6 * (1 + 6 * (1 + 26)) + 22 = 1000.
	loops := "for x: s { for y: s { " + insert(26) + " } }"
	within(true, "{ "+loops+insert(22)+" }")
	within(false, "{ "+loops+insert(23)+" }")
	within(true, "{ "+insert(10)+loops+insert(12)+" }")
	within(false, "{ "+insert(10)+loops+insert(12)+" for x: a {} }")
	within(false, "{ for x: s where x != x { for y: s where 1 == 2 { "+insert(27)+" } } }")
	// Also an empty block counts: 6 + 36 + 216 + 216 * n.
	within(true, "{ for x: s { for y: s { for z: s { for u: b {} } } } }")
	within(false, "{ for x: s { for y: s { for z: s { for u: f {} } } } }")
	within(true, "{ for x: s { for y: s { for z: s { insert r(); delete r(); add 0 to c(); } } } }")
	within(false, "{ for x: s { for y: s { for z: s { insert r(); delete r(); add 0 to c(); require 1 == 1; } } } }")
	hold := func(count int) string { return strings.Repeat("hold c() <= 1;", count) }
	within(true, "{ "+hold(8)+" }")
	within(false, "{ "+hold(9)+" }")
	within(true, "{ for x: f { "+hold(2)+" } for x: s { for y: s {} } }")
	within(false, "{ for x: f { "+hold(2)+" for y: a where y != y { for z: s {} } } "+hold(1)+" }")
	within(false, "{ for x: b { for y: f { hold c() <= 1; } hold c() >= 0; } }")
	within(false, "{ for x: f where 1 == 2 { "+hold(3)+" } }")
	update := func(count int) string {
		return strings.Repeat("put m();", count/3) + strings.Repeat("drop m();", (count+1)/3) + strings.Repeat("assign g() = 1;", (count+2)/3)
	}
	within(true, "{ "+update(32)+" }")
	within(false, "{ "+update(33)+" }")
	within(true, "{ for x: f { "+update(8)+" } }")
	within(false, "{ for x: f { "+update(8)+" } drop m(); }")
	within(false, "{ put m(); for x: f { "+update(8)+" } }")
	within(false, "{ for x: f { "+update(8)+" } assign g() = 0; }")
	within(true, "{ for x: f { "+update(8)+" } "+hold(8)+insert(99)+" }")
	within(false, "{ for x: s { for y: s { put m(); } } }")
	check(t, "sort z [size|0]; sort h [size|9999]; relation r(); operation o() { for a: z { for b: h { for c: h { for d: h { for e: h { insert r(); } } } } } } [many|operation p() { for b: h { for c: h { for d: h { for e: h { for f: h { for a: z { insert r(); } } } } } } }] [many|operation q() { for b: h { for c: h { for d: h { for e: h { for f: h { insert r(); } } } } } }]")
}

func TestP8_1Expressions(t *testing.T) {
	const head = kinds + "operation o(p: s, u: t, n in 1..3) { "
	for _, statement := range []string{
		"require n < 1;", "require p == 1 and u != 2;", "require [type|n];", "require [type|1];", "require [type|p];", "require [type|n + 1];", "require not n < 1 or [size|p == 2];", "require [sort|p == u];", "require [type|n] and n < 1 or [type|p];", "require [value|1000 * 1001] < n;", "require [type|u] < [type|p];",
		"add n to c(p);", "add -n * 2 to c(p);", "add [type|p] to c(p);", "add [type|n < 1] to c(p);", "add [type|p] + 1 to c(p);", "add 1000 * 1000 to c(p);", "add [value|1000 * 1000 + 1] to c(p);", "add [type|u == 1] to [kind r, columns|r(u)];", "add n - [type|u] to c([sort|u]);",
		"hold c(p) <= n;", "hold c(p) >= 2 * n - 1;", "hold c(p) <= [type|p];", "hold c(p) >= [type|n == 1];", "hold [kind m|m(p)] <= [size|p == 5];", "hold c([sort|u]) <= 1 - [type|u];",
		"assign g(p) = n;", "assign g(p) = 3;", "assign g(p) = n - 1;", "assign g(p) = 0 * n;", "assign g(p) = [value|4];", "assign g(p) = [value|-1];", "assign g(p) = [value|n + 1];", "assign g(p) = [value|n - 2];", "assign g(p) = [value|2 * n];", "assign k(p, u) = [type|p];", "assign k(p, u) = [type|n < 1];", "assign g(p) = [type|p] + 9;",
		"assign [kind c|c(p)] = 9;", "assign [kind m|m(p)] = -1;", "assign [columns|g()] = [value|9];", "assign g([sort|u]) = [value|9];", "assign g([size|2]) = [type|n == n];",
		"for x: s where x == p { insert q(x); }", "for x: s where [type|x] {}", "for x: s where [type|1] { insert q(x); }", "for x: s where [sort|x == u] {}", "for x: t where x == u { require x == 2 and [sort|x == p]; }", "for x: s where [type|x == n] { assign g(x) = [value|9]; }", "for x: s { require [type|x] < 1; } for x: t { require x == u; }",
		"for x: s where x != p { for y: t where [sort|y == x] or y == u { require x == p and y == 2 and [size|y == 3]; } }",
	} {
		check(t, head+statement+" }", head+"for v: s { "+statement+" } }")
	}
	check(t, "register g() in -5..5 multi; register h() in [size|1..0] last; operation o(n in -5..5) { assign g() = n; assign g() = -n; assign g() = [value|n * 2]; assign g() = [value|n - 1]; assign h() = [value|0]; assign h() = [value|1]; }",
		// With a parameter that has no value, no expression of the operation has a type.
		kinds+"operation o(n in [size|1..0], p: s) { require [type|p == 0]; hold c(p) <= [type|1]; for x: s where [type|x == 0] { add [type|1] to c([size|2]); assign g(x) = [type|9]; } for x: s { require [type|1 == 1]; } } operation u(n in 0..1) { require n == 0; }",
		"sort h [size|99]; sort z [size|0]; [many|operation v(p: h, u: h, q: z) { require p == 98 and [size|p == 99]; require [size|q == 0]; }]")
}

// The diagnostics stand in the order of their nodes.
func TestP8_1Order(t *testing.T) {
	check(t,
		"operation o(n in [size|1..0], p: s) { require [type|p == 2]; insert [columns|r()]; hold [size|[size|0] * c() + 1001 * [kind m|m(p)]] <= [type|p]; put m(p); } sort s [size|9]; [many|relation r[many|(a: s, b: s, c: s, d: s)];] counter c() in [size|3..2]; set m(a: s) addwins; [many|invariant i: [kind c, columns|acyclic c];] invariant j: [kind m, cycle|reference m(a) to [kind m|m] hide];",
		kinds+"operation o(p: s, u: t) { for x: s where [type|x] { assign [kind c|c([sort|u])] = [type|p]; add [value|1000 * 1001] to [kind q|q([size|7])]; } hold c([sort|u]) - [kind g, columns|g()] >= [type|u] + [value|1000 * 1001]; } invariant i: key r(a, [declared a|a]); invariant j: reference d([sort|b]) to q;")
}
