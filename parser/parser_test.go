package parser_test

import (
	"math/rand"
	"reflect"
	"slices"
	"strconv"
	"strings"
	"testing"

	"confluent/api"
	"confluent/lexer"
	"confluent/parser"
	"confluent/syntax"
)

var kindNames = strings.Fields("error none program sort relation counter set register invariant operation columns column range key reference count acyclic linear names bound total term cell parameters parameter block require hold insert delete add put drop assign for name number integer word unary binary")

// show writes a tree as kind:text@at-end(kids).
func show(n api.Node) string {
	text := kindNames[n.Kind]
	if n.Text != "" {
		text += ":" + n.Text
	}
	text += "@" + strconv.Itoa(n.At) + "-" + strconv.Itoa(n.End)
	var kids []string
	for _, kid := range n.Kids {
		kids = append(kids, show(kid))
	}
	if len(kids) > 0 {
		text += "(" + strings.Join(kids, " ") + ")"
	}
	return text
}

// showAll writes diagnostics as code@at-end, with the text that is expected behind it.
func showAll(diagnostics []api.Diagnostic) string {
	names := []string{"", "byte", "number", "long", "expected", "expression", "statement", "declaration"}
	var all []string
	for _, d := range diagnostics {
		text := names[d.Code] + "@" + strconv.Itoa(d.At) + "-" + strconv.Itoa(d.End)
		if d.Text != "" {
			text += " " + d.Text
		}
		all = append(all, text)
	}
	return strings.Join(all, ", ")
}

type parsing struct{ text, tree, wrong string }

func check(t *testing.T, parse func(text string) (api.Node, []api.Diagnostic, api.Errno), cases []parsing) {
	t.Helper()
	for _, c := range cases {
		tree, wrong, e := parse(c.text)
		if got := show(tree); e != api.OK || got != c.tree {
			t.Errorf("%q is %d\n%s, not\n%s", c.text, e, got, c.tree)
		}
		if got := showAll(wrong); got != c.wrong {
			t.Errorf("%q has the diagnostics\n%s, not\n%s", c.text, got, c.wrong)
		}
	}
}

func TestP4_1Trees(t *testing.T) {
	check(t, parser.Parse, []parsing{
		{"", "program@0-0", ""},
		{" # nothing\n", "program@0-11", ""},
		{"sort s 02; counter c(a: s) in -1..3;", "program@0-36(sort:s@0-10(number:2@7-9) counter:c@11-36(columns@20-26(column:a@21-25(name:s@24-25)) range@30-35(integer:-1@30-32 integer:3@34-35)))", ""},
		{"sort s 0000;", "program@0-12(sort:s@0-12(number:0@7-11))", ""},
		{"counter c() in - 007 .. -0;", "program@0-27(counter:c@0-27(columns@9-11 range@15-26(integer:-7@15-20 integer:0@24-26)))", ""},
		{"relation r(); relation r(a: s, b: t);", "program@0-37(relation:r@0-13(columns@10-12) relation:r@14-37(columns@24-36(column:a@25-29(name:s@28-29) column:b@31-35(name:t@34-35))))", ""},
		{"set x() addwins;set x() removewins;", "program@0-35(set:x@0-16(columns@5-7 word:addwins@8-15) set:x@16-35(columns@21-23 word:removewins@24-34))", ""},
		{"register g() in 0..1 last;register g() in 0..1 multi;", "program@0-53(register:g@0-26(columns@10-12 range@16-20(integer:0@16-17 integer:1@19-20) word:last@21-25) register:g@26-53(columns@36-38 range@42-46(integer:0@42-43 integer:1@45-46) word:multi@47-52))", ""},
		{"invariant i: key r(a, b);", "program@0-25(invariant:i@0-25(key:r@13-24(names@18-24(name:a@19-20 name:b@22-23))))", ""},
		{"invariant i: reference r(a) to q;", "program@0-33(invariant:i@0-33(reference:r@13-32(name:a@25-26 name:q@31-32 none@32-32)))", ""},
		{"invariant i: reference r(a) to q hide;", "program@0-38(invariant:i@0-38(reference:r@13-37(name:a@25-26 name:q@31-32 word:hide@33-37)))", ""},
		{"invariant i: count r() >= -1;", "program@0-29(invariant:i@0-29(count:r@13-28(names@20-22 bound:>=@23-28(integer:-1@26-28))))", ""},
		{"invariant i: acyclic r;", "program@0-23(invariant:i@0-23(acyclic:r@13-22))", ""},
		{"invariant i: all (x: s) -2 * sum(y: s) r(x, 0) + c() - 3*c() >= -0;", "program@0-67(invariant:i@0-67(linear@13-66(columns@17-23(column:x@18-22(name:s@21-22)) total@24-60(term:-@24-46(number:2@25-26 columns@32-38(column:y@33-37(name:s@36-37)) cell:r@39-46(name:x@41-42 number:0@44-45)) term:+@47-52(none@48-48 none@48-48 cell:c@49-52) term:-@53-60(number:3@55-56 none@57-57 cell:c@57-60)) bound:>=@61-66(integer:0@64-66))))", ""},
		{"operation o(){}", "program@0-15(operation:o@0-15(parameters@11-13 none@13-13 block@13-15))", ""},
		{"operation o(x: s, y in 0..1) ordered { }", "program@0-40(operation:o@0-40(parameters@11-28(parameter:x@12-16(name:s@15-16) parameter:y@18-27(range@23-27(integer:0@23-24 integer:1@26-27))) word:ordered@29-36 block@37-40))", ""},
		{"operation o() { insert r(); delete r(01); put r(x); drop r(); }", "program@0-63(operation:o@0-63(parameters@11-13 none@13-13 block@14-63(insert@16-27(cell:r@23-26) delete@28-41(cell:r@35-40(number:1@37-39)) put@42-51(cell:r@46-50(name:x@48-49)) drop@52-61(cell:r@57-60))))", ""},
		{"operation o() { hold c() <= (1 + 2); require ((a)) * -(b + c); add (1) to c(); assign g(00) = 007; }", "program@0-100(operation:o@0-100(parameters@11-13 none@13-13 block@14-100(hold@16-36(total@21-24(term:+@21-24(none@20-20 none@20-20 cell:c@21-24)) bound:<=@25-35(binary:+@29-34(number:1@29-30 number:2@33-34))) require@37-62(binary:*@45-61(name:a@47-48 unary:-@53-61(binary:+@55-60(name:b@55-56 name:c@59-60)))) add@63-78(number:1@68-69 cell:c@74-77) assign@79-98(cell:g@86-91(number:0@88-90) number:7@94-97))))", ""},
		{"operation o() { for x: s { } for y: s where (a) { for z: s { } } }", "program@0-66(operation:o@0-66(parameters@11-13 none@13-13 block@14-66(for@16-28(column:x@20-24(name:s@23-24) none@24-24 block@25-28) for@29-64(column:y@33-37(name:s@36-37) name:a@45-46 block@48-64(for@50-62(column:z@54-58(name:s@57-58) none@58-58 block@59-62))))))", ""},
	})
}

// The first rule: a token that the grammar demands is not next.
func TestP4_1Expected(t *testing.T) {
	check(t, parser.Parse, []parsing{
		{"sort s 2", "program@0-8(sort:s@0-8(number:2@7-8))", "expected@8-8 ;"},
		{"sort s 2 # end\n", "program@0-15(sort:s@0-8(number:2@7-8))", "expected@15-15 ;"},
		{"sort", "program@0-4(sort@0-4(number@4-4))", "expected@4-4 name"},
		{"sort ;", "program@0-6(sort@0-6(number@4-4))", "expected@5-6 name"},
		{"sort s;", "program@0-7(sort:s@0-7(number@6-6))", "expected@6-7 number"},
		{"sort sort 2;", "program@0-12(sort@0-4(number@4-4) sort@5-12(number:2@10-11))", "expected@5-9 name, expected@10-11 name"},
		{"sort 2 s", "program@0-8(sort@0-6(number:2@5-6) error@7-8)", "expected@5-6 name, expected@7-8 ;"},
		{"relation r a: s;", "program@0-16(relation:r@0-16(columns@11-15(column:a@11-15(name:s@14-15))))", "expected@11-12 (, expected@15-16 )"},
		{"relation r(a s, b:);", "program@0-20(relation:r@0-20(columns@10-19(column:a@11-14(name:s@13-14) column:b@16-18(name@18-18))))", "expected@13-14 :, expected@18-19 name"},
		{"relation r(a: s,);", "program@0-18(relation:r@0-18(columns@10-17(column:a@11-15(name:s@14-15) column@16-16(name@16-16))))", "expected@16-17 name"},
		{"set x(a: s);", "program@0-12(set:x@0-12(columns@5-11(column:a@6-10(name:s@9-10)) error@11-11))", "expected@11-12 addwins"},
		{"set x() last;", "program@0-13(set:x@0-7(columns@5-7 error@7-7) error@8-13)", "expected@8-12 addwins"},
		{"register g() in 0..-;", "program@0-21(register:g@0-21(columns@10-12 range@16-20(integer:0@16-17 integer@19-20) error@20-20))", "expected@20-21 number"},
		{"register g() in 0..1;", "program@0-21(register:g@0-21(columns@10-12 range@16-20(integer:0@16-17 integer:1@19-20) error@20-20))", "expected@20-21 last"},
		{"counter c in -0..1;", "program@0-19(counter:c@0-19(columns@9-9(column@9-9(name@9-9)) range@13-18(integer:0@13-15 integer:1@17-18)))", "expected@10-12 ("},
		{"counter c() 0 1;", "program@0-16(counter:c@0-16(columns@9-11 range@12-15(integer:0@12-13 integer:1@14-15)))", "expected@12-13 in, expected@14-15 .."},
		{"invariant i key r(a);", "program@0-21(invariant:i@0-21(key:r@12-20(names@17-20(name:a@18-19))))", "expected@12-15 :"},
		{"invariant i: r;", "program@0-15(invariant:i@0-12(error@12-12) error@13-15)", "expected@13-14 invariant"},
		{"invariant i: invariant j: key r(a);", "program@0-35(invariant:i@0-12(error@12-12) invariant:j@13-35(key:r@26-34(names@31-34(name:a@32-33))))", "expected@13-22 invariant"},
		{"invariant i: count r(a) 5;", "program@0-26(invariant:i@0-26(count:r@13-25(names@20-23(name:a@21-22) bound@24-25(integer:5@24-25))))", "expected@24-25 <="},
		{"invariant i: count r(a) < 5;", "program@0-28(invariant:i@0-23(count:r@13-23(names@20-23(name:a@21-22) bound@23-23(integer@23-23))) error@24-28)", "expected@24-25 <="},
		{"invariant i: reference r to q hidden;", "program@0-37(invariant:i@0-29(reference:r@13-29(name@24-24 name:q@28-29 none@29-29)) error@30-37)", "expected@25-27 (, expected@30-36 ;"},
		{"invariant i: reference r() q;", "program@0-29(invariant:i@0-29(reference:r@13-28(name@25-25 name:q@27-28 none@28-28)))", "expected@25-26 name, expected@27-28 to"},
		{"invariant i: all () + c() <= 1;", "program@0-31(invariant:i@0-31(linear@13-30(columns@17-19 total@20-25(term:+@19-19(none@19-19 none@19-19 cell@19-19(error@19-19)) term:+@20-25(none@21-21 none@21-21 cell:c@22-25)) bound:<=@26-30(integer:1@29-30))))", "expected@20-21 name"},
		{"invariant i: all () 3 r(x) >= 0;", "program@0-32(invariant:i@0-32(linear@13-31(columns@17-19 total@20-26(term:+@20-26(number:3@20-21 none@21-21 cell:r@22-26(name:x@24-25))) bound:>=@27-31(integer:0@30-31))))", "expected@22-23 *"},
		{"operation o(x, y z, in 0..1) { }", "program@0-32(operation:o@0-16(parameters@11-16(parameter:x@12-13(error@13-13) parameter:y@15-16(error@16-16)) none@16-16 block@16-16) error@17-32)", "expected@13-14 :, expected@17-18 :"},
		{"operation o(in 0..1) { }", "program@0-24(operation:o@0-24(parameters@11-20(parameter@12-19(range@15-19(integer:0@15-16 integer:1@18-19))) none@20-20 block@21-24))", "expected@12-14 name"},
		{"operation o() { insert r(+); put (a,; }", "program@0-39(operation:o@0-39(parameters@11-13 none@13-13 block@14-39(insert@16-25(cell:r@23-25(error@25-25)) error@25-28 put@29-37(cell@33-36(name:a@34-35 error@36-36)))))", "expected@25-26 name, expected@33-34 name, expected@36-37 name"},
		{"operation o() { hold c() (1 + 2); assign g() 1; add 1 c() }", "program@0-59(operation:o@0-59(parameters@11-13 none@13-13 block@14-59(hold@16-33(total@21-24(term:+@21-24(none@20-20 none@20-20 cell:c@21-24)) bound@25-32(binary:+@26-31(number:1@26-27 number:2@30-31))) assign@34-47(cell:g@41-44 number:1@45-46) add@48-57(number:1@52-53 cell:c@54-57))))", "expected@25-26 <=, expected@45-46 =, expected@54-55 to, expected@58-59 ;"},
	})
}

// The other rules: expressions, blocks, statements and declarations.
func TestP4_1Broken(t *testing.T) {
	check(t, parser.Parse, []parsing{
		{"operation o(x in 0..1) { require x <; }", "program@0-39(operation:o@0-39(parameters@11-22(parameter:x@12-21(range@17-21(integer:0@17-18 integer:1@20-21))) none@22-22 block@23-39(require@25-37(binary:<@33-36(name:x@33-34 error@36-36)))))", "expression@36-37"},
		{"operation o() { require (a; require not; }", "program@0-42(operation:o@0-42(parameters@11-13 none@13-13 block@14-42(require@16-27(name:a@25-26) require@28-40(unary:not@36-39(error@39-39)))))", "expected@26-27 ), expression@39-40"},
		{"operation o() { require a < b < c; }", "program@0-36(operation:o@0-36(parameters@11-13 none@13-13 block@14-36(require@16-29(binary:<@24-29(name:a@24-25 name:b@28-29)) error@30-34)))", "expected@30-31 ;"},
		{"operation o() ordered ordered { }", "program@0-33(operation:o@0-21(parameters@11-13 word:ordered@14-21 block@21-21) error@22-33)", "expected@22-29 {"},
		{"operation o( insert r(); }", "program@0-26(operation:o@0-12(parameters@11-12(parameter@12-12(error@12-12)) none@12-12 block@12-12) error@13-26)", "expected@13-19 name"},
		{"operation o()", "program@0-13(operation:o@0-13(parameters@11-13 none@13-13 block@13-13))", "expected@13-13 {"},
		{"operation o() sort s 1;", "program@0-23(operation:o@0-13(parameters@11-13 none@13-13 block@13-13) sort:s@14-23(number:1@21-22))", "expected@14-18 {"},
		{"operation o() { put a() sort s 1;", "program@0-33(operation:o@0-23(parameters@11-13 none@13-13 block@14-23(put@16-23(cell:a@20-23))) sort:s@24-33(number:1@31-32))", "expected@24-28 ;"},
		{"operation o() { put a(); register", "program@0-33(operation:o@0-24(parameters@11-13 none@13-13 block@14-24(put@16-24(cell:a@20-23))) register@25-33(columns@33-33(column@33-33(name@33-33)) range@33-33(integer@33-33 integer@33-33) error@33-33))", "expected@25-33 }, expected@33-33 name"},
		{"operation o() { for x: s where", "program@0-30(operation:o@0-30(parameters@11-13 none@13-13 block@14-30(for@16-30(column:x@20-24(name:s@23-24) error@30-30 block@30-30))))", "expression@30-30"},
		{"operation o() { for x: s insert r(x); }", "program@0-39(operation:o@0-39(parameters@11-13 none@13-13 block@14-39(for@16-24(column:x@20-24(name:s@23-24) none@24-24 block@24-24) insert@25-37(cell:r@32-36(name:x@34-35)))))", "expected@25-31 {"},
		{"operation o() { x y; ; put a(b) drop c(d); @ foo } bar sort s 1;", "program@0-64(operation:o@0-50(parameters@11-13 none@13-13 block@14-50(error@16-20 error@21-22 put@23-31(cell:a@27-31(name:b@29-30)) drop@32-42(cell:c@37-41(name:d@39-40)) error@45-48)) error@51-54 sort:s@55-64(number:1@62-63))", "statement@16-17, statement@21-22, expected@32-36 ;, byte@43-44, statement@45-48, declaration@51-54"},
		{"operation o() { x put a(); to hide set", "program@0-38(operation:o@0-34(parameters@11-13 none@13-13 block@14-34(error@16-17 put@18-26(cell:a@22-25) error@27-34)) set@35-38(columns@38-38(column@38-38(name@38-38)) error@38-38))", "statement@16-17, statement@27-29, expected@35-38 }, expected@38-38 name"},
		{"operation o() { ;; }", "program@0-20(operation:o@0-20(parameters@11-13 none@13-13 block@14-20(error@16-17 error@17-18)))", "statement@16-17, statement@17-18"},
		{"operation o() { (", "program@0-17(operation:o@0-17(parameters@11-13 none@13-13 block@14-17(error@16-17)))", "statement@16-17, expected@17-17 }"},
		{"x; put a(); } sort s 1; ; }", "program@0-27(error@0-13 sort:s@14-23(number:1@21-22) error@24-27)", "declaration@0-1, declaration@24-25"},
		{"; x", "program@0-3(error@0-3)", "declaration@0-1"},
		{"! ?", "program@0-3", "byte@0-1, byte@2-3"},
		{"sort !! s ! 2 ! ;", "program@0-17(sort:s@0-17(number:2@12-13))", "byte@5-7, byte@10-11, byte@14-15"},
		{"sort s ! ;", "program@0-10(sort:s@0-10(number@6-6))", "byte@7-8, expected@9-10 number"},
	})
}

// Diagnostics of tokens stand in front of those of the grammar at the same place, and do not keep these from being reported.
func TestP4_1Tokens(t *testing.T) {
	check(t, parser.Parse, []parsing{
		{"sort a_name_of_17_byte 00001;", "program@0-29(sort:a_name_of_17_byte@0-29(number:1@23-28))", "long@5-22, number@23-28"},
		{"sort a_name_of_16_byt 10000;", "program@0-28(sort:a_name_of_16_byt@0-28(number:10000@22-27))", "number@22-27"},
		{"counter c() in -012345..9999;", "program@0-29(counter:c@0-29(columns@9-11 range@15-28(integer:-12345@15-22 integer:9999@24-28)))", "number@16-22"},
		{"sort 12345 6;", "program@0-13(sort@0-10(number:12345@5-10) error@11-13)", "number@5-10, expected@5-10 name, expected@11-12 ;"},
		{"12345 a_name_of_17_byte \xff", "program@0-25(error@0-23)", "number@0-5, declaration@0-5, long@6-23, byte@24-25"},
		{"operation o() { 12345 6; }", "program@0-26(operation:o@0-26(parameters@11-13 none@13-13 block@14-26(error@16-24)))", "number@16-21, statement@16-21"},
	})
}

func TestP4_2Expressions(t *testing.T) {
	check(t, parser.Expression, []parsing{
		{"a", "name:a@0-1", ""},
		{" 007 ", "number:7@1-4", ""},
		{"(a)", "name:a@1-2", ""},
		{"((a) < b) or c", "binary:or@0-14(binary:<@1-8(name:a@2-3 name:b@7-8) name:c@13-14)", ""},
		{"not not a == - - b", "unary:not@0-18(unary:not@4-18(binary:==@8-18(name:a@8-9 unary:-@13-18(unary:-@15-18(name:b@17-18)))))", ""},
		{"a - b - c * d * (e)", "binary:-@0-19(binary:-@0-5(name:a@0-1 name:b@4-5) binary:*@8-19(binary:*@8-13(name:c@8-9 name:d@12-13) name:e@17-18))", ""},
		{"a or b and c or d", "binary:or@0-17(binary:or@0-12(name:a@0-1 binary:and@5-12(name:b@5-6 name:c@11-12)) name:d@16-17)", ""},
		{"-a * b", "binary:*@0-6(unary:-@0-2(name:a@1-2) name:b@5-6)", ""},
		{"-(a * b)", "unary:-@0-8(binary:*@2-7(name:a@2-3 name:b@6-7))", ""},
		{"not a and b", "binary:and@0-11(unary:not@0-5(name:a@4-5) name:b@10-11)", ""},
		{"123456 + a_name_of_17_byte", "binary:+@0-26(number:123456@0-6 name:a_name_of_17_byte@9-26)", "number@0-6, long@9-26"},
		{"", "error@0-0", "expression@0-0"},
		{" ! ", "error@0-0", "byte@1-2, expression@3-3"},
		{"()", "error@1-1", "expression@1-2"},
		{"() + 1", "binary:+@0-6(error@1-1 number:1@5-6)", "expression@1-2"},
		{"(a", "name:a@1-2", "expected@2-2 )"},
		{"a +", "binary:+@0-3(name:a@0-1 error@3-3)", "expression@3-3"},
		{"a + not b", "binary:+@0-3(name:a@0-1 error@3-3)", "expression@4-7, expected@4-7 end"},
		{"a < b < c", "binary:<@0-5(name:a@0-1 name:b@4-5)", "expected@6-7 end"},
		{"a b", "name:a@0-1", "expected@2-3 end"},
		{"a !", "name:a@0-1", "byte@2-3"},
		{"a ! 12345", "name:a@0-1", "byte@2-3, number@4-9, expected@4-9 end"},
		{"+", "binary:+@0-1(error@0-0 error@1-1)", "expression@0-1, expression@1-1"},
		{"(a;", "name:a@1-2", "expected@2-3 ), expected@2-3 end"},
		{")", "error@0-0", "expression@0-1, expected@0-1 end"},
		{"sort s 2;", "error@0-0", "expression@0-4, expected@0-4 end"},
	})
}

func TestP4_1TooLarge(t *testing.T) {
	for _, text := range []string{strings.Repeat(" ", api.MaxSource), strings.Repeat("!", api.MaxSource), strings.Repeat("sort s 1", api.MaxSource/8)} {
		for _, parse := range []func(string) (api.Node, []api.Diagnostic, api.Errno){parser.Parse, parser.Expression} {
			if _, _, e := parse(text); e != api.OK {
				t.Errorf("%q.. is refused", text[:8])
			}
			if tree, wrong, e := parse(text + " "); e != api.ErrTooLarge || len(wrong) > 0 || !reflect.DeepEqual(tree, api.Node{}) {
				t.Errorf("%q.. with a byte more: %v, %v, %d", text[:8], tree, wrong, e)
			}
		}
	}
}

// parts are words for broken texts.
var parts = append(strings.Fields("a b s 0 7 10000 a_name_of_17_byte ! sort relation counter set register invariant operation key reference to count acyclic all sum in addwins removewins last multi hide ordered require hold insert delete add from put drop assign for where and or not == != <= >= .. < > = + - * ( ) { } , : ;"), "( )", "{ }", "a :", "r ( x )")

// broken returns random texts: some of the grammar, and the others with one or several changes.
func broken(start string) []string {
	w := newWriter(7)
	r := rand.New(rand.NewSource(8))
	var texts []string
	for i := range 3000 {
		words := w.text(start, 4+r.Intn(20))
		for range i % 4 {
			at := r.Intn(len(words) + 1)
			switch r.Intn(3) {
			case 0:
				words = slices.Insert(words, at, parts[r.Intn(len(parts))])
			case 1:
				words = slices.Delete(words, at, min(at+1, len(words)))
			case 2:
				words = slices.Replace(words, at, min(at+1, len(words)), parts[r.Intn(len(parts))])
			}
		}
		if text := strings.Join(words, " "); len(text) <= api.MaxSource {
			texts = append(texts, text)
		}
	}
	return texts
}

// ofParser leaves out the diagnostics of tokens.
func ofParser(all []api.Diagnostic) []api.Diagnostic {
	return slices.DeleteFunc(slices.Clone(all), func(d api.Diagnostic) bool { return d.Code <= api.DiagLong })
}

// The first thing that is wrong is the first token with which no text of the grammar goes on.
func TestP4_1FollowsTheGrammar(t *testing.T) {
	followsTheGrammar(t, "program", parser.Parse)
}

func TestP4_2FollowsTheGrammar(t *testing.T) {
	followsTheGrammar(t, "expression", parser.Expression)
}

func followsTheGrammar(t *testing.T, start string, parse func(string) (api.Node, []api.Diagnostic, api.Errno)) {
	rules := rules()
	good, bad := 0, 0
	for _, text := range broken(start) {
		if len(text) > 500 {
			continue // the recognizer is slow
		}
		_, all, _ := parse(text)
		found := ofParser(all)
		tokens, _ := lexer.Scan(text)
		tokens = slices.DeleteFunc(tokens, func(token api.Token) bool { return token.Kind == api.TokenWrong })
		at := newRecognizer(rules, text).wrong(start)
		if at < 0 && len(found) > 0 {
			t.Fatalf("%q has diagnostics: %s", text, showAll(all))
		}
		if at >= 0 && (len(found) == 0 || found[0].At != tokens[at].At || found[0].End != tokens[at].End) {
			t.Fatalf("%q is wrong at %v: %s", text, tokens[at], showAll(all))
		}
		if at < 0 {
			good++
		} else {
			bad++
		}
	}
	if good < 400 || bad < 400 {
		t.Errorf("%d good texts and %d bad ones", good, bad)
	}
}

// leaves returns the words of a tree that comes from a text without parentheses around expressions.
func leaves(n api.Node) []string {
	before := map[int]string{api.NodeSort: "sort", api.NodeRelation: "relation", api.NodeCounter: "counter", api.NodeSet: "set", api.NodeRegister: "register", api.NodeInvariant: "invariant", api.NodeOperation: "operation", api.NodeKey: "key", api.NodeReference: "reference", api.NodeCount: "count", api.NodeAcyclic: "acyclic", api.NodeLinear: "all", api.NodeRequire: "require", api.NodeHold: "hold", api.NodeInsert: "insert", api.NodeDelete: "delete", api.NodeAdd: "add", api.NodePut: "put", api.NodeDrop: "drop", api.NodeAssign: "assign", api.NodeFor: "for"}
	var words []string
	if before[n.Kind] != "" {
		words = append(words, before[n.Kind])
	}
	if n.Text != "" && n.Kind != api.NodeBinary {
		words = append(words, strings.TrimSuffix(strings.Replace(n.Text, "-", "- ", 1), " "))
	}
	for i, kid := range n.Kids {
		if n.Kind == api.NodeBinary && i == 1 {
			words = append(words, n.Text)
		}
		words = append(words, leaves(kid)...)
	}
	return words
}

// All names, numbers and words of a text are in its tree, in order. Signs are left out: they are written for terms that have none, and not for 0.
func TestP4_1Words(t *testing.T) {
	w := newWriter(9)
	w.plain = true
	for range 2000 {
		words := w.text("program", 25)
		text := strings.Join(words, " ")
		if len(text) > api.MaxSource {
			continue
		}
		tree, wrong, e := parser.Parse(text)
		if e != api.OK || len(wrong) > 0 {
			t.Fatalf("%q: %d, %s", text, e, showAll(wrong))
		}
		var want, got []string
		for _, word := range words {
			if !slices.Contains(strings.Fields("; : , ( ) { } .. in to where sum = * + -"), word) {
				want = append(want, word)
			}
		}
		for _, word := range leaves(tree) {
			for _, part := range strings.Fields(word) {
				if !slices.Contains(strings.Fields("* + -"), part) {
					got = append(got, part)
				}
			}
		}
		if !slices.Equal(got, want) {
			t.Fatalf("%q has the words\n%q", text, got)
		}
	}
}

// write writes an expression with all parentheses, or with those alone that its levels need.
func write(n api.Node, all bool) (string, int) {
	inner := func(n api.Node, level int) string {
		text, own := write(n, all)
		if own < level || all {
			return "(" + text + ")"
		}
		return text
	}
	switch {
	case n.Kind == api.NodeUnary && n.Text == "not":
		return "not " + inner(n.Kids[0], 3), 3
	case n.Kind == api.NodeUnary:
		return "-" + inner(n.Kids[0], 7), 7
	case n.Kind == api.NodeBinary:
		level := map[string]int{"or": 1, "and": 2, "+": 5, "-": 5, "*": 6}[n.Text]
		first := level
		if level == 0 {
			level, first = 4, 5
		}
		return inner(n.Kids[0], first) + " " + n.Text + " " + inner(n.Kids[1], level+1), level
	}
	return n.Text, 8
}

func randomExpression(r *rand.Rand, depth int) api.Node {
	kind := r.Intn(6)
	switch {
	case depth == 0 || kind == 0:
		return api.Node{Kind: api.NodeName, Text: []string{"a", "b"}[r.Intn(2)]}
	case kind == 1:
		return api.Node{Kind: api.NodeNumber, Text: []string{"0", "12"}[r.Intn(2)]}
	case kind == 2:
		return api.Node{Kind: api.NodeUnary, Text: []string{"-", "not"}[r.Intn(2)], Kids: []api.Node{randomExpression(r, depth-1)}}
	}
	operators := strings.Fields("or and == != < <= > >= + - *")
	return api.Node{Kind: api.NodeBinary, Text: operators[r.Intn(len(operators))], Kids: []api.Node{randomExpression(r, depth-1), randomExpression(r, depth-1)}}
}

func TestP4_2Levels(t *testing.T) {
	r := rand.New(rand.NewSource(10))
	for range 3000 {
		tree := randomExpression(r, 5)
		for _, all := range []bool{true, false} {
			text, _ := write(tree, all)
			got, wrong, e := parser.Expression(text)
			if e != api.OK || len(wrong) > 0 || !syntax.Equal(got, tree) {
				t.Fatalf("%q is %s: %s", text, show(got), showAll(wrong))
			}
		}
	}
}

// spans checks the spans of a tree; each of them begins and ends with a token that was read.
func spans(t *testing.T, text string, n api.Node, starts, ends map[int]bool) {
	at := n.At
	for _, kid := range n.Kids {
		if kid.At < kid.End && (kid.At < at || kid.End > n.End) || kid.At > kid.End {
			t.Fatalf("%q: %s is not in order in %s", text, show(kid), show(n))
		}
		if kid.At < kid.End && (!starts[kid.At] || !ends[kid.End]) || kid.At == kid.End && kid.End > 0 && !ends[kid.End] {
			t.Fatalf("%q: %s is not of whole tokens", text, show(kid))
		}
		at = max(at, kid.End)
		spans(t, text, kid, starts, ends)
	}
}

func TestP4_3Spans(t *testing.T) {
	for _, text := range broken("program") {
		starts, ends := map[int]bool{}, map[int]bool{}
		tokens, _ := lexer.Scan(text)
		for _, token := range tokens {
			if token.Kind != api.TokenWrong && token.Kind != api.TokenEnd {
				starts[token.At], ends[token.End] = true, true
			}
		}
		tree, all, _ := parser.Parse(text)
		if tree.Kind != api.NodeProgram || tree.At != 0 || tree.End != len(text) || tree.Text != "" {
			t.Fatalf("%q is %s", text, show(tree))
		}
		spans(t, text, tree, starts, ends)
		if !slices.IsSortedFunc(all, func(a, b api.Diagnostic) int { return a.At - b.At }) {
			t.Fatalf("%q: %s", text, showAll(all))
		}
		if len(all) == 0 && !syntax.Program(tree) {
			t.Fatalf("%q has not the shape of a program", text)
		}
	}
}

func TestP4_3WhiteSpace(t *testing.T) {
	for _, text := range broken("program") {
		if strings.Contains(text, "!") {
			continue
		}
		tree, all, _ := parser.Parse(text)
		for _, space := range []string{"\n", "\t\r ", " # c;\n"} {
			other := space + strings.Join(lexer.Words(text), space) + space
			if len(other) > api.MaxSource {
				continue
			}
			if got, found, _ := parser.Parse(other); !syntax.Equal(got, tree) || len(found) != len(all) {
				t.Fatalf("%q changes %q", space, text)
			}
		}
		if got, _, _ := parser.Parse(lexer.Compact(text)); !syntax.Equal(got, tree) {
			t.Fatalf("the compact text changes %q", text)
		}
	}
}

func TestP4_3OneBehindTheOther(t *testing.T) {
	w := newWriter(11)
	for range 500 {
		a, b := strings.Join(w.text("program", 15), " "), strings.Join(w.text("program", 15), " ")
		if len(a)+len(b) >= api.MaxSource {
			continue
		}
		treeA, _, _ := parser.Parse(a)
		treeB, _, _ := parser.Parse(b)
		tree, wrong, _ := parser.Parse(a + " " + b)
		want := api.Node{Kind: api.NodeProgram, Kids: slices.Concat(treeA.Kids, treeB.Kids)}
		if len(wrong) > 0 || !syntax.Equal(tree, want) || !syntax.Program(tree) {
			t.Fatalf("%q and %q: %s", a, b, showAll(wrong))
		}
	}
}

// Texts of nothing but one part, as long as they can be.
func TestP1LongTexts(t *testing.T) {
	for _, part := range append(parts, "not ", "-", "(", "operation o(){for x:s{", "f\n", "\xff", "# ", "a+", "(a*", "-a<") {
		for _, front := range []string{"", "operation o(){", "operation o(){require ", "operation o(){hold ", "invariant i: all ("} {
			text := front + strings.Repeat(part, api.MaxSource)
			text = text[:api.MaxSource]
			if _, _, e := parser.Parse(text); e != api.OK {
				t.Errorf("%q.. is refused", part)
			}
			if _, _, e := parser.Expression(text); e != api.OK {
				t.Errorf("%q.. is refused", part)
			}
		}
	}
}

func TestRulesResultsAreNew(t *testing.T) {
	const text = "sort s 2 ! operation o() { put r(x"
	tree, wrong, _ := parser.Parse(text)
	want, all := show(tree), showAll(wrong)
	tree.Kids[0].Kids[0].Text = "x"
	clear(tree.Kids)
	clear(wrong)
	if again, found, _ := parser.Parse(text); show(again) != want || showAll(found) != all {
		t.Error("a changed result changes the next one")
	}
}
