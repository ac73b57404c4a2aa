package interp_test

import (
	"testing"

	"jacquard/api"
)

// wrap returns a source that has statements in a kernel with parameters of all kinds.
func wrap(statements string) string {
	return `fn zero() -> u8 { return 0; }
fn same(p: u8) -> u8 { return p; }
fn minus(p: u8, q: u8) -> u8 { return p - q; }
fn twice(p: u8) -> u8 { return minus(p, minus(0, p)); }
fn sum(x: u8) -> u8 { var v: u8; for i: u8 in 1 .. x + 1 { v = v + i; } return v; }
kernel k(x: u8, y: s8, b: bool, a: u8[4], d: s8[2], q: in u8, r: in bool, o: out u8) {
` + statements + "\n}"
}

// inKernel runs statements with x = 250, y = -6, b = 1, and some words in the arrays and streams.
func inKernel(t *testing.T, statements string, fuel int) api.Outcome {
	t.Helper()
	env := api.Env{Scalars: []uint64{250, 250, 1}, Arrays: [][]uint64{{10, 20, 30, 40}, {1, 255}}, Ins: [][]uint64{{3, 1, 2, 200, 5}, {0, 1, 1, 0}, nil}}
	return run(t, mustType(wrap(statements)), env, fuel)
}

// ended returns the outcome of a run in a kernel without a result.
func ended(status int, a, d []uint64, sent ...uint64) api.Outcome {
	return api.Outcome{Status: status, Arrays: [][]uint64{a, d}, Outs: [][]uint64{nil, nil, sent}}
}

var (
	arrayA = []uint64{10, 20, 30, 40}
	arrayD = []uint64{1, 255}
)

// words are expressions of the type u8 with their values.
var words = []struct {
	expr string
	want uint64
}{
	// Names, numbers and operators.
	{"x", 250}, {"x + 10", 4}, {"(y >> 1) as u8", 253}, {"x >> 1", 125}, {"255", 255}, {"-1", 255}, {"~x", 5}, {"-x", 6}, {"1 - 2 - 3", 252}, {"-(-128 as s8) as u8", 128},
	{"x / 0", 255}, {"x % 0", 250}, {"(y / 0) as u8", 255}, {"(y % 0) as u8", 250}, {"(y / 4) as u8", 255}, {"(y % 4) as u8", 254}, {"(-128 / y / y * y) as u8", 18}, {"(-128 as s8 / -1) as u8", 128}, {"(-128 as s8 % -1) as u8", 0},
	{"x << 8", 0}, {"x >> 8", 0}, {"x << 7", 0}, {"x << 6", 128}, {"(y >> 100) as u8", 255}, {"(y >> -1) as u8", 255}, {"(y << -1) as u8", 0}, {"x >> x", 0},
	{"(x < 3) as u8", 0}, {"(y < 3) as u8", 1}, {"(x > 3) as u8", 1}, {"(y > 3) as u8", 0}, {"(y >= -6) as u8", 1}, {"(y <= -7) as u8", 0}, {"(y == -6) as u8", 1}, {"(x != 250) as u8", 0},
	{"!b as u8", 0}, {"!false as u8", 1}, {"(b && false) as u8", 0}, {"(b || false) as u8", 1}, {"(true + true) as u8", 0}, {"-b as u8", 1}, {"~b as u8", 0},
	// Conversions.
	{"y as u8", 250}, {"(y as u16 >> 8) as u8", 255}, {"(x as u16 >> 8) as u8", 0}, {"(x as s16 >> 8) as u8", 0}, {"(y as s16 >> 8) as u8", 255}, {"(x as u4) as u8", 10}, {"(x as s4) as u8", 250}, {"(5 as s3) as u8", 253}, {"b as u8", 1}, {"(b as s1) as u8", 255}, {"(y as u64 >> 60) as u8", 15}, {"x as u1 as u8", 0},
	// Elements, also of indexes that are out of bounds.
	{"a[0]", 10}, {"a[3]", 40}, {"a[4]", 0}, {"a[4294967295]", 0}, {"a[x]", 0}, {"a[x - 248]", 30}, {"a[-1]", 0}, {"a[18446744073709551615 as u64]", 0}, {"a[9223372036854775808 as u64]", 0}, {"a[4294967296 as u64]", 0}, {"a[b]", 20}, {"a[a[0] / 5]", 30}, {"d[1] as u8", 255}, {"d[2] as u8", 0}, {"a[1 as u2 - 2]", 40},
	// Calls.
	{"zero()", 0}, {"same(x)", 250}, {"minus(x, 1)", 249}, {"minus(1, x)", 7}, {"twice(x)", 244}, {"minus(twice(3), same(minus(1, 2)))", 7}, {"sum(4)", 10}, {"sum(sum(3))", 21}, {"sum(255)", 0}, {"sum(2) - sum(3)", 253}, {"twice(twice(twice(1)))", 8},
	// All operands are evaluated, each once, from left to right.
	{"recv(q)", 3}, {"recv(q) - recv(q)", 2}, {"recv(q) - (recv(q) - recv(q))", 4}, {"recv(q) - recv(q) - recv(q)", 0}, {"recv(q) << recv(q)", 6}, {"(recv(q) > recv(q)) as u8", 1}, {"(recv(q) <= recv(q)) as u8", 0}, {"(recv(q) < recv(q)) as u8", 0}, {"(recv(q) >= recv(q)) as u8", 1}, {"7 - recv(q) / recv(q)", 4},
	{"minus(recv(q), recv(q))", 2}, {"minus(recv(q), same(recv(q)))", 2}, {"minus(minus(recv(q), recv(q)), recv(q))", 0}, {"zero() * recv(q) + recv(q)", 1}, {"a[recv(q)] - recv(q)", 39}, {"recv(q) - a[recv(q)]", 239}, {"-recv(q) - recv(q)", 252}, {"(recv(q) as s4 as u8) - recv(q)", 2},
	{"((false && recv(r)) as u8) + recv(q) + (recv(r) as u8)", 4}, {"((true || recv(r)) as u8) + recv(q) + (recv(r) as u8)", 5}, {"((false && same(recv(q)) == 3) as u8) + recv(q)", 1}, {"((true || same(recv(q)) == 3) as u8) + recv(q)", 2}, {"((recv(r) && recv(r)) as u8) + (recv(r) as u8)", 1}, {"((recv(r) || recv(r)) as u8) + (recv(r) as u8) * 2", 3},
	{"(true ? recv(q) : recv(q)) - recv(q)", 1}, {"(false ? recv(q) : recv(q)) - recv(q)", 255}, {"(recv(q) == 3 ? recv(q) : recv(q)) - recv(q)", 57}, {"recv(r) ? recv(q) : recv(q)", 1}, {"recv(r) ? 1 : recv(r) ? 2 : 3", 2}, {"b ? x : zero()", 250}, {"!b ? x : 7", 7}, {"a[b ? recv(q) : recv(q)] + recv(q)", 42},
}

// P6.1: the values of expressions.
func TestExpressions(t *testing.T) {
	for _, c := range words {
		want := ended(api.Done, arrayA, arrayD, c.want)
		if got := inKernel(t, "send o("+c.expr+");", plenty); !sameOutcome(got, want) {
			t.Errorf("%s: %v, not %v", c.expr, got, want)
		}
	}
}

// statements are statements with the status, the first array, and what they send.
var statements = []struct {
	s      string
	status int
	a      []uint64
	sent   []uint64
}{
	{"", api.Done, arrayA, nil},
	// Declarations: a variable is 0 each time that its declaration is executed.
	{"var v: u8; send o(v); v = 5; send o(v); v = v + x; send o(v);", api.Done, arrayA, []uint64{0, 5, 255}},
	{"for i: u8 in 0 .. 3 { var v: u8; send o(v); v = 9; send o(v + i); }", api.Done, arrayA, []uint64{0, 9, 0, 10, 0, 11}},
	{"if b { var v: u8 = 7; send o(v); } var v: u8; send o(v); v = 3; if b { let w = v; send o(w); } let w = 4 as u8; send o(w);", api.Done, arrayA, []uint64{7, 0, 3, 4}},
	{"if b { let v = x; } else { } var v: s8; send o(v as u8);", api.Done, arrayA, []uint64{0}},
	{"let v = recv(q); let w = v; send o(v); send o(w); send o(v);", api.Done, arrayA, []uint64{3, 3, 3}},
	{"var v: u8 = recv(q); v = recv(q) - v; send o(v);", api.Done, arrayA, []uint64{254}},
	// Functions have names of their own, and their scalars end with them.
	{"let p = 9 as u8; let v = same(1) + same(2); send o(p); send o(v); send o(sum(2) + sum(1));", api.Done, arrayA, []uint64{9, 3, 4}},
	// Stores: the index comes ahead of the value, and both come also where there is no such element.
	{"a[0] = 1; a[3] = a[0] + 1; a[1] = x;", api.Done, []uint64{1, 250, 30, 2}, nil},
	{"a[4] = 1; a[x] = 2; a[18446744073709551615 as u64] = 3; a[9223372036854775808 as u64] = 4; a[4294967296 as u64] = 5;", api.Done, arrayA, nil},
	{"a[recv(q)] = recv(q);", api.Done, []uint64{10, 20, 30, 1}, nil},
	{"a[recv(q) + 1] = recv(q); send o(recv(q));", api.Done, arrayA, []uint64{2}},
	{"a[a[0] - 10] = a[0] + a[1]; a[a[0] - 30] = 0;", api.Done, []uint64{0, 20, 30, 40}, nil},
	{"d[1] = y; d[0] = d[1]; a[1] = d[0] as u8; d[0] = 1; d[1] = -1;", api.Done, []uint64{10, 250, 30, 40}, nil},
	// Branches.
	{"if b { send o(1); } if !b { send o(2); } if b { send o(3); } else { send o(4); } if !b { send o(5); } else { send o(6); }", api.Done, arrayA, []uint64{1, 3, 6}},
	{"for i: u8 in 0 .. 4 { if i == 0 { send o(1); } else if i == 1 { send o(2); } else if i == 2 { send o(3); } else { send o(4); } }", api.Done, arrayA, []uint64{1, 2, 3, 4}},
	{"for i: u8 in 0 .. 3 { if i == 0 { send o(1); } else if i == 1 { send o(2); } }", api.Done, arrayA, []uint64{1, 2}},
	{"if recv(r) { send o(1); } else if recv(r) { send o(2); } else if recv(r) { send o(3); } if recv(r) { send o(4); }", api.Done, arrayA, []uint64{2, 4}},
	// Loops that count: bounds are evaluated once, the lower one first.
	{"for i: u2 in 0 .. 3 { send o(i as u8); }", api.Done, arrayA, []uint64{0, 1, 2}},
	{"for i: u8 in recv(q) - 2 .. recv(q) + 3 { send o(i); } send o(recv(q));", api.Done, arrayA, []uint64{1, 2, 3, 2}},
	{"for i: u8 in 5 .. 5 { send o(i); } for i: u8 in 6 .. 5 { send o(i); } for i: u8 in 254 .. 255 { send o(i); } for i: u8 in 255 .. 0 { send o(i); } for i: u8 in 0 .. -254 { send o(i); }", api.Done, arrayA, []uint64{254, 0, 1}},
	{"for i: s8 in -2 .. 2 { send o(i as u8); } for i: s8 in 126 .. 127 { send o(i as u8); } for i: s8 in 127 .. -128 { send o(i as u8); } for i: s8 in 0 .. -1 { send o(i as u8); } for i: s8 in -128 .. -127 { send o(i as u8); }", api.Done, arrayA, []uint64{254, 255, 0, 1, 126, 128}},
	{"for i: bool in false .. true { send o(i as u8); } for i: u1 in 1 .. 1 { send o(i as u8); } for i: s1 in -1 .. 0 { send o(i as u8); } for i: s1 in 0 .. -1 { send o(i as u8); }", api.Done, arrayA, []uint64{0, 255}},
	{"for i: u64 in 18446744073709551613 .. 18446744073709551615 { send o(i as u8); } for i: s64 in 9223372036854775805 .. 9223372036854775807 { send o(i as u8); } for i: s64 in 9223372036854775808 .. -9223372036854775806 { send o(i as u8 + 5); }", api.Done, arrayA, []uint64{253, 254, 253, 254, 5, 6}},
	{"var v: u8 = 2; for i: u8 in v .. v + 3 { v = 0; send o(i); } send o(v);", api.Done, arrayA, []uint64{2, 3, 4, 0}},
	{"for i: u8 in 0 .. 2 { for j: u8 in i .. 2 { send o(10 * i + j); } } for i: u8 in 7 .. 8 { let j = i; send o(j); }", api.Done, arrayA, []uint64{0, 1, 11, 7}},
	{"for i: u8 in 0 .. sum(2) { send o(sum(i)); }", api.Done, arrayA, []uint64{0, 1, 3}},
	// Loops with a condition.
	{"var v: u8 = 3; while v != 0 { send o(v); v = v - 1; } while v != 0 { send o(9); } while false { send o(recv(q)); }", api.Done, arrayA, []uint64{3, 2, 1}},
	{"while recv(q) != 2 { send o(recv(q)); } send o(recv(q));", api.Done, arrayA, []uint64{1, 200}},
	{"while recv(q) != 9 { send o(recv(q)); } send o(recv(q));", api.Starved, arrayA, []uint64{1, 200}},
	{"while recv(q) != 200 { send o(0); } send o(recv(q));", api.Done, arrayA, []uint64{0, 0, 0, 5}},
	// Directives have no effect.
	{"# pipeline 3 # unroll 2 for i: u8 in 0 .. 3 { send o(i); } # unroll while recv(r) != true { send o(7); } # pipeline while recv(q) == 3 { send o(8); }", api.Done, arrayA, []uint64{0, 1, 2, 7, 8}},
	// Streams that run out: what is to the left is done.
	{"send o(recv(q)); a[0] = 5; a[1] = recv(q) + recv(q) + recv(q) + recv(q) + recv(q); send o(9);", api.Starved, []uint64{5, 20, 30, 40}, []uint64{3}},
	{"while true { send o(recv(q)); }", api.Starved, arrayA, []uint64{3, 1, 2, 200, 5}},
	{"while true { a[0] = a[0] + (recv(r) as u8); send o(recv(q)); }", api.Starved, []uint64{12, 20, 30, 40}, []uint64{3, 1, 2, 200}},
	{"send o(1); while recv(r) || true { } send o(2);", api.Starved, arrayA, []uint64{1}},
	{"for i: u8 in 0 .. 6 { let v = minus(recv(q), i); a[i] = v; }", api.Starved, []uint64{3, 0, 0, 197}, nil},
	{"if false { let v = recv(q); } else { for i: u8 in 0 .. 5 { send o(recv(q)); } }", api.Done, arrayA, []uint64{3, 1, 2, 200, 5}},
	{"for i: u8 in 0 .. 4 { let v = recv(r); } send o(1); let v = true || recv(r); send o(2);", api.Starved, arrayA, []uint64{1}},
}

// P6.1: the effects of statements.
func TestStatements(t *testing.T) {
	for _, c := range statements {
		want := ended(c.status, c.a, arrayD, c.sent...)
		if got := inKernel(t, c.s, plenty); !sameOutcome(got, want) {
			t.Errorf("%s: %v, not %v", c.s, got, want)
		}
	}
}

// P6.1: all arrays and streams of a kernel, numbered in the order of the parameters, whatever stands between them; and words that are returned.
func TestOutcomes(t *testing.T) {
	source := `kernel k(o: out u4, a: s3[2] cyclic 2, x: u64, q: in s64, p: out s64, b: u64[3] complete, y: s3, r: in u4) -> s64 {
a[1] = y; b[2] = x; send p(recv(q)); send o(recv(r)); send p(y as s64); return recv(q) - 1; }`
	env := api.Env{Scalars: []uint64{1 << 63, 5}, Arrays: [][]uint64{{7, 6}, {1, 2, 3}}, Ins: [][]uint64{nil, {9, 0, 4}, nil, {15}}}
	all := [][]uint64{{7, 5}, {1, 2, 1 << 63}}
	want := api.Outcome{Status: api.Done, Rets: []uint64{^uint64(0)}, Arrays: all, Outs: [][]uint64{{15}, nil, {9, 1<<64 - 3}, nil}}
	if got := run(t, mustType(source), env, plenty); !sameOutcome(got, want) {
		t.Errorf("%v, not %v", got, want)
	}
	env.Ins[1] = env.Ins[1][:1]
	want.Status, want.Rets = api.Starved, nil
	if got := run(t, mustType(source), env, plenty); !sameOutcome(got, want) {
		t.Errorf("%v, not %v", got, want)
	}
	for source, rets := range map[string][]uint64{
		"kernel k() { }": nil, "kernel k() -> u8 { return 7; }": {7}, "kernel k() -> u1 { return false; }": {0}, "kernel k() -> s5 { var v: s5; v = v - 1; return v; }": {31},
		"fn k0() -> u8 { return 9; } kernel k() { let v = k0(); }": nil, "kernel k() -> u8 { return f() + g(); } fn f() -> u8 { return g() * 2; } fn g() -> u8 { return 3; }": {9},
	} {
		want := api.Outcome{Status: api.Done, Rets: rets}
		if got := run(t, mustType(source), api.Env{}, plenty); !sameOutcome(got, want) {
			t.Errorf("%s: %v, not %v", source, got, want)
		}
	}
}

// P6.1: the chapter's and the document's examples.
func TestExamples(t *testing.T) {
	if got := returned(t, mustType("kernel k(x: u8) -> u8 { return x + 10; }"), 250); got != 4 {
		t.Error(got)
	}
	if got := returned(t, mustType("kernel k(x: s8) -> s8 { return x >> 1; }"), 250); got != 253 {
		t.Error(got)
	}
	sum := mustType("kernel k(q: in u8) -> u8 { return recv(q) + recv(q); }")
	if out := run(t, sum, api.Env{Ins: [][]uint64{{1, 2}}}, plenty); out.Status != api.Done || out.Rets[0] != 3 {
		t.Error(out)
	}
	if out := run(t, sum, api.Env{Ins: [][]uint64{{1}}}, plenty); out.Status != api.Starved || len(out.Rets) > 0 {
		t.Error(out)
	}
	difference := mustType("kernel k(q: in u8) -> u8 { return recv(q) - recv(q); }")
	if out := run(t, difference, api.Env{Ins: [][]uint64{{1, 3}}}, plenty); out.Status != api.Done || out.Rets[0] != 254 {
		t.Error(out)
	}
}
