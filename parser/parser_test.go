package parser_test

import (
	"fmt"
	"math/rand/v2"
	"reflect"
	"strings"
	"testing"

	"jacquard/api"
	"jacquard/lexer"
	"jacquard/parser"
)

// check reports a source for which Parse does not return a line and an error, and no tree.
func check(t *testing.T, source string, line int, e api.Errno) {
	t.Helper()
	n, gotLine, got := parser.Parse(source)
	if got != e || gotLine != line || e != api.OK && !reflect.DeepEqual(n, api.Node{}) {
		t.Errorf("Parse(%.300q): line %d, error %d, not line %d, error %d; %s", source, gotLine, got, line, e, shown(n))
	}
}

// parsed returns the tree of a source, with nil for empty Kids.
func parsed(t *testing.T, source string) api.Node {
	t.Helper()
	n, line, e := parser.Parse(source)
	if e != api.OK || line != 0 {
		t.Fatalf("Parse(%.300q): line %d, error %d", source, line, e)
	}
	return copied(n)
}

// inKernel returns a source with statements.
func inKernel(statements string) string { return "kernel k() {" + statements + "}" }

// value returns the tree of an expression, without lines.
func value(t *testing.T, expr string) api.Node {
	t.Helper()
	return bared(parsed(t, inKernel("x = "+expr+";"))).Kids[0].Kids[0].Kids[0].Kids[0]
}

// P4.1: trees, with all lines, of sources with any blanks, comments and brackets.
func TestTrees(t *testing.T) {
	r := rand.New(rand.NewPCG(4, 2))
	for want := range trees(4000) {
		for _, choices := range []*rand.Rand{nil, r, r} {
			source := spell(&want, choices)
			if got := parsed(t, source); !reflect.DeepEqual(got, want) {
				t.Fatalf("Parse(%q) = %s, not %s", source, shown(got), shown(want))
			}
		}
	}
}

// P4.1: the chapter's examples.
func TestExamples(t *testing.T) {
	name := func(s string) api.Node { return api.Node{Kind: api.NodeName, Name: s} }
	number := func(n uint64) api.Node { return api.Node{Kind: api.NodeNumber, Num: n} }
	node := func(n api.Node, kids ...api.Node) api.Node {
		n.Kids = kids
		return n
	}
	cast := node(api.Node{Kind: api.NodeCast, Type: api.Type{Width: 8}}, node(api.Node{Kind: api.NodeUnary, Op: api.SrcNeg}, name("c")))
	product := node(api.Node{Kind: api.NodeBinary, Op: api.SrcMul}, name("b"), cast)
	sum := node(api.Node{Kind: api.NodeBinary, Op: api.SrcAdd}, name("a"), product)
	shift := node(api.Node{Kind: api.NodeBinary, Op: api.SrcShl}, sum, number(1))
	if got := value(t, "a + b * -c as u8 << 1"); !reflect.DeepEqual(got, shift) {
		t.Error(shown(got))
	}
	check(t, "kernel k() {\n\tx = y\n}\n", 3, api.ErrSyntax)
	want := node(api.Node{Kind: api.NodeProgram, Line: 1}, node(api.Node{Kind: api.NodeKernel, Name: "k", Line: 1},
		api.Node{Kind: api.NodeArray, Name: "a", Type: api.Type{Width: 8}, Num: 4, Op: api.Cyclic, Factor: 2, Line: 1},
		api.Node{Kind: api.NodeIn, Name: "b", Type: api.Type{Width: 8}, Line: 1},
		api.Node{Kind: api.NodeBlock, Line: 1}))
	if got := parsed(t, "kernel k(a: u8[4] cyclic 2, b: in u8) { }"); !reflect.DeepEqual(got, want) {
		t.Error(shown(got))
	}
}

// P4.1
func TestWithoutTokens(t *testing.T) {
	for _, s := range []string{"", " ", "\n\n", "// a comment", "// (\n\n// @", "\t\r\n"} {
		if got := parsed(t, s); !reflect.DeepEqual(got, api.Node{Kind: api.NodeProgram, Line: 1}) {
			t.Errorf("Parse(%q) = %s", s, shown(got))
		}
	}
}

// P4.1: a program may have any number of functions and kernels, in any order.
func TestUnits(t *testing.T) {
	got := parsed(t, "\nkernel a() { } fn b() -> u1 { }\n kernel c() -> s64 { } fn\nd(x: bool,\ny: s1) -> u64 { }")
	var s []string
	for n := range walk(&got) {
		s = append(s, fmt.Sprintf("%d%s%v%d", n.Kind, n.Name, n.Type, n.Line))
	}
	const want = "1{0 false}2 3a{0 false}2 8{0 false}2 2b{1 false}2 8{0 false}2 3c{64 true}3 8{0 false}3 2d{64 false}3 4x{1 false}4 4y{1 true}5 8{0 false}5"
	if joined := strings.Join(s, " "); joined != want {
		t.Error(joined)
	}
}

// P4.1: the error of the lexer comes first, and has the line of its offset.
func TestLexerErrors(t *testing.T) {
	long := strings.Repeat("a", 65)
	check(t, "@", 1, api.ErrSyntax)
	check(t, "\n\n // @\n\n\t@", 5, api.ErrSyntax)
	check(t, "} } )\n\r\r\n 1u\n@", 3, api.ErrSyntax)
	check(t, ") \n\n"+long+"\n@", 3, api.ErrLimit)
	check(t, "\n18446744073709551616", 2, api.ErrLimit)
	check(t, strings.Repeat("(", 201)+"\n$", 2, api.ErrSyntax)
	check(t, strings.Repeat("\n", api.MaxSource)+"@", 65537, api.ErrLimit)
	check(t, strings.Repeat(" ", api.MaxSource)+"\n", 1, api.ErrLimit)
	check(t, strings.Repeat("\n", 10)+strings.Repeat(" ", api.MaxSource)+"\n", 11, api.ErrLimit)
	check(t, strings.Repeat("\n", api.MaxSource), 0, api.OK)
}

// P4.1: the errors of sources with a few words that may be anywhere.
func TestShortErrors(t *testing.T) {
	r := recognizer{rules()}
	words := strings.Fields("fn kernel a pipeline unroll 0 1 1048576 1048577 ( ) { } [ ] -> : u8 bool in out cyclic blocks complete var let = ; if else for while .. # send recv return true - ! * < || as ? ,")
	for _, context := range []string{
		"", "kernel k ( ", "kernel k ( a : u8 [ ", "kernel k ( a : u8 [ 4 ] ", "kernel k ( ) ", "fn f ( ", "fn f ( a : u8 ", "fn f ( ) ", "kernel k ( ) { ", "kernel k ( ) { # ",
		"kernel k ( ) { # pipeline ", "kernel k ( ) { # unroll ", "kernel k ( ) { # pipeline # unroll ", "kernel k ( ) { # pipeline # unroll 2 ", "kernel k ( ) { # unroll 1048576 # pipeline 1 ", "kernel k ( ) { # pipeline 7 # ", "kernel k ( ) { # unroll 7 # ",
		"kernel k ( ) { a ", "kernel k ( ) { x = ", "kernel k ( ) { x = a ", "kernel k ( ) { x = a < b ", "kernel k ( ) { x = a ? b : c ", "kernel k ( ) { x = ( - f ( a ", "kernel k ( ) { x = a as u8 ", "kernel k ( ) { x = recv ", "kernel k ( ) { var a ", "kernel k ( ) { let a ",
		"kernel k ( ) { for i : u8 in 0 ", "kernel k ( ) { while a { } ", "kernel k ( ) { if a { } ", "kernel k ( ) { if a { } else ", "kernel k ( ) { send a ", "kernel k ( ) { return a ", "kernel k ( ) { } ",
	} {
		for _, a := range words {
			for _, b := range words {
				// Each token has a line of its own, which says which token is wrong.
				source := strings.ReplaceAll(context+a+" "+b+" }", " ", "\n")
				line, e := r.expected(source)
				check(t, source, line, e)
			}
		}
	}
}

// changed returns the words of a source with one change at random.
func changed(r *rand.Rand, words []string, pool []string) []string {
	i, j := r.IntN(len(words)), r.IntN(len(words))
	list := append([]string{}, words...)
	other := pool[r.IntN(len(pool))]
	switch r.IntN(6) {
	case 0:
		return append(list[:i], list[i+1:]...)
	case 1:
		return append(append(list[:i:i], other), list[i:]...)
	case 2:
		return list[:i]
	case 3:
		list[i] = other
	case 4:
		list[i], list[j] = list[j], list[i]
	case 5:
		j = min(i+1, len(words)-1)
		list[i], list[j] = list[j], list[i]
	}
	return list
}

// P4.1: the errors of programs that have been changed somewhere.
func TestChangedPrograms(t *testing.T) {
	oracle := recognizer{rules()}
	r := rand.New(rand.NewPCG(4, 3))
	errors := 0
	for n := range trees(600) {
		tokens, _, _ := lexer.Lex(full)
		if r.IntN(20) > 0 {
			tokens, _, _ = lexer.Lex(spell(&n, r))
		}
		var words []string
		for _, token := range tokens {
			words = append(words, token.Text)
		}
		for range 8 {
			if len(words) == 0 {
				break
			}
			source := strings.Join(changed(r, words, words), "\n")
			line, e := oracle.expected(source)
			check(t, source, line, e)
			if e != api.OK {
				errors++
			}
		}
	}
	if errors < 2000 {
		t.Errorf("only %d errors", errors)
	}
}

// P4.1: a source that ends too early has the line of its last token.
func TestEnds(t *testing.T) {
	oracle := recognizer{rules()}
	tokens, _, _ := lexer.Lex(full)
	for size := range len(tokens) {
		source := lexer.Join(tokens[:size])
		for _, s := range []string{source, strings.ReplaceAll(source, " ", "\n") + "\n\n", strings.ReplaceAll(source, " ", "\n\n") + "// )\n"} {
			line, e := oracle.expected(s)
			check(t, s, line, e)
		}
	}
	check(t, "kernel k(\n)\n{\n\n\n", 3, api.ErrSyntax)
	check(t, "kernel\n// k() { }\n", 1, api.ErrSyntax)
	check(t, "\n\nfn", 3, api.ErrSyntax)
}

// P4.1
func TestSyntaxErrors(t *testing.T) {
	for _, s := range []string{
		"# pipeline 0\n", "# pipeline 1048577\n", "# pipeline 18446744073709551615", "# unroll 0", "# unroll 1", "# unroll 1048577", "# unroll 4294967298", "# pipeline # pipeline", "# unroll # unroll", "# unroll 2 # pipeline # unroll", "# pipeline -1", "# pipeline x", "# inline", "#", "# 1", "# \"", "# pipeline;",
		"# pipeline # pipeline while 1 { }", "# unroll 2 # pipeline 2 # unroll 2 while 1 { }", "# pipeline x = 1;", "# unroll if a { }", "# pipeline { }", "# for a { }",
		"x = a < b < c;", "x = a == b != c;", "x = a < b == c;", "x = a >= b || c < d < e;", "x = a as u0;", "x = a as b;", "x = a as;", "x = as u8;", "x = a ? b;", "x = a ? : b;", "x = a ? b : ;", "x = ;", "x = ();", "x = +a;", "x = a +;", "x = a b;", "x = (a;", "x = a);", "x = (a];", "x = a -> b;", "x = a .. b;", "x = f(a,);", "x = f(,);", "x = f(a b);", "x = a[];", "x = a[b, c];", "x = recv();", "x = recv(1);", "x = recv(a[0]);", "x = recv;", "x = a[0][0];", "x = f(a)(b);", "x = f(a)[b];", "x = 1(a);", "x = (a)(b);", "x = recv(q)[0];", "x = - ;", "x = if;", "x = u8;", "x = u8(a);",
		"1 = x;", "x;", "f(x);", "x == 1;", "(x) = 1;", "-x = 1;", "x[0] = ;", "x[0];", "x[] = 1;", "x[0][1] = 2;", "x += 1;", "x = 1", "x = 1,", "true = 1;", "in = 1;", "{ }", ";", "x = 1;;", "fn f() -> u8 { }", "kernel k() { }",
		"var x;", "var x: 8;", "var x: y;", "var x: u8 = ;", "var x = 1;", "var u8: u8;", "var x: u8[4];", "var x: in u8;", "let x;", "let x: u8;", "let x: = 1;", "let = 1;", "let x == 1;", "let x: u65 = 1;",
		"if { }", "if a x = 1;", "if a { } else x = 1;", "if a { } else { } else { }", "else { }", "if (a { }", "if a { }; ", "if a, b { }", "if a { } else if { }", "if a { } else while a { }",
		"for i in 0 .. 1 { }", "for i: u8 in 0 { }", "for i: u8 in 0 .. { }", "for i: u8 in .. 1 { }", "for i: u8 = 0 .. 1 { }", "for 1: u8 in 0 .. 1 { }", "for i: u8 in 0 .. 1 x = 1;", "for i: u8 in 0 .. 1 .. 2 { }", "for i: u8 in (0 .. 1) { }", "while { }", "while a;", "while a { } else { }",
		"send(x);", "send r x;", "send r();", "send r(x)", "send r(x, y);", "send 1(x);", "send r[x];", "return;", "return a", "return a, b;", "recv(q);",
	} {
		check(t, "kernel k() {\n"+s+"\n}\n", map[bool]int{true: 2, false: 3}[wrongInLine(s)], api.ErrSyntax)
	}
	for _, s := range []string{
		"x", "u8", "1", "kernel", "kernel k", "kernel k {}", "kernel k()", "kernel k();", "kernel k() -> {}", "kernel k() -> x {}", "kernel k() : u8 {}", "kernel () {}", "kernel 1() {}", "kernel u8() {}", "kernel k(a) {}", "kernel k(a: ) {}", "kernel k(a: b) {}", "kernel k(a: u8,) {}", "kernel k(, a: u8) {}", "kernel k(a: u8 b: u8) {}", "kernel k(u8 a) {}", "kernel k(in a: u8) {}",
		"kernel k(a: in) {}", "kernel k(a: in out u8) {}", "kernel k(a: in u8[4]) {}", "kernel k(a: out u8[4]) {}", "kernel k(a: [4]) {}", "kernel k(a: u8[]) {}", "kernel k(a: u8[n]) {}", "kernel k(a: u8[-1]) {}", "kernel k(a: u8[2 + 2]) {}", "kernel k(a: u8[1048577]) {}", "kernel k(a: u8[18446744073709551615]) {}", "kernel k(a: u8[4][4]) {}", "kernel k(a: u8[4] cyclic) {}", "kernel k(a: u8[4] cyclic 1048577) {}", "kernel k(a: u8[4] blocks) {}", "kernel k(a: u8[4] blocks 1048577) {}", "kernel k(a: u8[4] blocks 0x100001) {}", "kernel k(a: u8[4] complete 2) {}", "kernel k(a: u8[4] cyclic 2 complete) {}", "kernel k(a: u8[4] whole) {}", "kernel k(a: u8 cyclic 2) {}",
		"fn f() {}", "fn f() -> {}", "fn f() -> u8", "fn f(a) -> u8 {}", "fn f(a: u8[4]) -> u8 {}", "fn f(a: in u8) -> u8 {}", "fn f(a: out u8) -> u8 {}", "fn () -> u8 {}", "fn f -> u8 {}", "fn fn() -> u8 {}", "fn kernel() -> u8 {}", "fn f(a: u8,) -> u8 {}", "fn f() -> in u8 {}", "fn f() -> u8[4] {}", "fn f() => u8 {}",
		"kernel k() {} }", "kernel k() {} ;", "kernel k() {} x = 1;", "}", ")", "] )", "(", "{", "# pipeline kernel k() {}", "var x: u8; kernel k() {}",
	} {
		check(t, "\n"+s, 2, api.ErrSyntax)
	}
}

// wrongInLine reports whether a statement is wrong, whatever comes behind it.
func wrongInLine(s string) bool {
	tokens, _, e := lexer.Lex("kernel k ( ) { " + s)
	i, _ := recognizer{rules()}.wrong(tokens)
	return e != api.OK || i < len(tokens)
}

// P4.1: which token of a directive is the first one that cannot follow.
func TestDirectiveLines(t *testing.T) {
	for s, line := range map[string]int{
		"#\npipeline\n#\npipeline":              5,
		"#\nunroll\n2\n#\nunroll":               6,
		"#\npipeline\n#\nunroll\n#\npipeline":   6,
		"#\nunroll\n#\npipeline\n3\n#\nunroll":  7,
		"#\npipeline\n0\n":                      4,
		"#\nunroll\n1\n":                        4,
		"#\npipeline\n1048577":                  4,
		"#\nunroll\n#\npipeline\n2\n3\nwhile":   7,
		"#\nunroll\n#\npipeline\n2\nx\n":        7,
		"#\ninline\n":                           3,
		"#\n#\n":                                3,
		"#\npipeline\n2\n#\nunroll\n1\nfor\nx;": 7,
	} {
		check(t, "kernel k() {\n"+s+"}", line, api.ErrSyntax)
	}
}

// P4.1
func TestDirectives(t *testing.T) {
	for s, want := range map[string][2]int{
		"": {0, 0}, "# pipeline": {1, 0}, "# pipeline 1": {1, 0}, "# pipeline 2": {2, 0}, "# pipeline 1048576": {1048576, 0}, "# pipeline 0x100": {256, 0},
		"# unroll": {0, 1}, "# unroll 2": {0, 2}, "# unroll 1048576": {0, 1048576}, "#unroll 0b11": {0, 3},
		"# pipeline # unroll": {1, 1}, "# unroll # pipeline": {1, 1}, "# pipeline 3 # unroll 4": {3, 4}, "# unroll 4 # pipeline 3": {3, 4}, "#unroll 5#pipeline": {1, 5}, "#pipeline#unroll 5": {1, 5}, "# unroll # pipeline 007": {7, 1},
	} {
		for _, loop := range []string{"while 1 { }", "for i: u8 in 0 .. 1 { }"} {
			n := parsed(t, inKernel(s+" "+loop)).Kids[0].Kids[0].Kids[0]
			if n.Pipeline != want[0] || n.Unroll != want[1] {
				t.Errorf("%s: %d, %d", s, n.Pipeline, n.Unroll)
			}
		}
	}
	// They are names elsewhere.
	parsed(t, "kernel pipeline(unroll: u8) { var pipeline: u8 = unroll; unroll = pipeline(unroll); # unroll for unroll: u8 in pipeline .. unroll { } }")
}

// P4.1
func TestParams(t *testing.T) {
	u8 := api.Type{Width: 8}
	for s, want := range map[string]api.Node{
		"u8":                       {Kind: api.NodeParam},
		"in u8":                    {Kind: api.NodeIn},
		"out u8":                   {Kind: api.NodeOut},
		"u8[0]":                    {Kind: api.NodeArray},
		"u8[0x100000]":             {Kind: api.NodeArray, Num: 1048576},
		"u8[4] cyclic 0":           {Kind: api.NodeArray, Num: 4, Op: api.Cyclic},
		"u8[4] cyclic 1048576":     {Kind: api.NodeArray, Num: 4, Op: api.Cyclic, Factor: 1048576},
		"u8[4]blocks 2":            {Kind: api.NodeArray, Num: 4, Op: api.Blocks, Factor: 2},
		"u8[4] blocks 1048576":     {Kind: api.NodeArray, Num: 4, Op: api.Blocks, Factor: 1048576},
		"u8 [ 1048576 ]  complete": {Kind: api.NodeArray, Num: 1048576, Op: api.Complete},
	} {
		want.Name, want.Type, want.Line = "p", u8, 1
		n := parsed(t, "kernel k(a: s7, p: "+s+", b: bool[1]) -> s9 { }").Kids[0]
		if len(n.Kids) != 4 || !reflect.DeepEqual(n.Kids[1], want) || n.Type != (api.Type{Width: 9, Signed: true}) {
			t.Errorf("%s: %s", s, shown(n))
		}
	}
}

// P4.1: the levels of binary operators, and the grouping on each level.
func TestLevels(t *testing.T) {
	list := strings.Fields(binaryOperators)
	for i, first := range list {
		for j, second := range list {
			_, one := binary(binaryNumbers[i])
			_, two := binary(binaryNumbers[j])
			want := "(a " + first + " b) " + second + " c"
			if one < two {
				want = "a " + first + " (b " + second + " c)"
			}
			source := "a " + first + " b " + second + " c"
			if one == 3 && two == 3 {
				check(t, inKernel("x =\n"+strings.Replace(source, " b ", "\nb\n", 1)+";"), 4, api.ErrSyntax)
				continue
			}
			if got := value(t, source); !reflect.DeepEqual(got, value(t, want)) || got.Kind != api.NodeBinary || got.Op != binaryNumbers[map[bool]int{true: i, false: j}[one < two]] {
				t.Errorf("%s: %s", source, shown(got))
			}
		}
	}
	for source, want := range map[string]string{
		"a - b - c - d": "((a - b) - c) - d", "a || b && c == d | e ^ f & g << h + i * j": "a || (b && (c == (d | (e ^ (f & (g << (h + (i * j))))))))", "a * b + c << d & e ^ f | g == h && i || j": "((((((((a * b) + c) << d) & e) ^ f) | g) == h) && i) || j",
		"a < b && c < d": "(a < b) && (c < d)", "a / b * c % d": "((a / b) * c) % d", "a - b + c": "(a - b) + c", "a >> b << c": "(a >> b) << c", "a --- b": "a - (-(-b))", "a - !b": "a - (!b)",
		"-a as u8": "(-a) as u8", "~!-a": "~(!(-a))", "a as u8 as s4": "(a as u8) as s4", "a * b as u8": "a * (b as u8)", "a as u8 * b": "(a as u8) * b", "-a[b + c]": "-(a[b + c])", "- f(a) as u8": "(-(f(a))) as u8", "!a == b": "(!a) == b", "- -1": "-(-(1))", "~recv(q) + 1": "(~(recv(q))) + 1",
		"a ? b : c ? d : e": "a ? b : (c ? d : e)", "a ? b ? c : d : e": "a ? (b ? c : d) : e", "a || b ? c || d : e || f": "(a || b) ? (c || d) : (e || f)", "a ? b : c as u8": "a ? b : (c as u8)", "-a ? -b : -c": "(-a) ? (-b) : (-c)", "a == b ? c == d : e == f": "(a == b) ? (c == d) : (e == f)",
		"((((a))))": "a", "f((a), (b))": "f(a, b)", "(a)[(b)]": "", "f((a) + (b), (((c)[0])))": "",
	} {
		if want == "" {
			check(t, inKernel("x = "+source+";"), 1, api.ErrSyntax)
		} else if got := value(t, source); !reflect.DeepEqual(got, value(t, want)) {
			t.Errorf("%s: %s", source, shown(got))
		}
	}
	if reflect.DeepEqual(value(t, "(a < b) < c"), value(t, "a < (b < c)")) {
		t.Error("brackets play no role")
	}
	if n := value(t, "(a ? b : c) + d"); n.Kind != api.NodeBinary || n.Kids[0].Kind != api.NodeCond {
		t.Error(shown(n))
	}
}

// P4.1
func TestNumbers(t *testing.T) {
	for s, want := range map[string]api.Node{
		"true": {Num: 1, Type: api.Type{Width: 1}}, "false": {Type: api.Type{Width: 1}}, "0": {}, "1": {Num: 1}, "(true)": {Num: 1, Type: api.Type{Width: 1}},
		"18446744073709551615": {Num: 1<<64 - 1}, "0xffffffffffffffff": {Num: 1<<64 - 1}, "0b101": {Num: 5}, "007": {Num: 7}, "1048577": {Num: 1048577},
	} {
		want.Kind = api.NodeNumber
		if got := value(t, s); !reflect.DeepEqual(got, want) {
			t.Errorf("%s: %s", s, shown(got))
		}
	}
}

// P4.1: a node's line is that of its first token; brackets around an expression do not belong to it, but to what surrounds it.
func TestLines(t *testing.T) {
	const source = `
kernel
k(a: u8,
b: u8)
{
#
pipeline #
unroll
while
(
a
) + b {
x
=
(
(
(
a) * b) + c)
as u8 ? (
f(
- (
1)))
: (
q[
(0)]) ; }
if
(
a) { } else
if b
{
} }
`
	n := parsed(t, source)
	var got []string
	for part := range walk(&n) {
		got = append(got, fmt.Sprintf("%d:%d", part.Kind, part.Line))
	}
	const want = "1:2 3:2 4:3 4:4 8:5 15:6 22:10 19:11 19:12 8:12 11:13 23:15 24:15 22:16 22:17 19:18 19:18 19:18 25:20 21:21 18:22 20:24 18:25 13:26 19:28 8:28 13:29 19:29 8:30"
	if joined := strings.Join(got, " "); joined != want {
		t.Errorf("%s\nnot\n%s", joined, want)
	}
}
