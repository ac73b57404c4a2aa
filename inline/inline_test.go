package inline_test

import (
	"slices"
	"strings"
	"testing"

	"jacquard/api"
	"jacquard/inline"
	"jacquard/interp"
	"jacquard/parser"
)

// functions are those that the tables call. Their names, and those of their parameters, variables and loops, are also names of the kernel.
const functions = `
fn z() -> u8 { return 7; }
fn inc(x: u8) -> u8 { return x + 1; }
fn sub(a: u8, q: u8) -> u8 { let x = a - q; return x; }
fn low(y: s8) -> s4 { return y as s4; }
fn mix(x: u8, y: s8, c: u1) -> u8 { return c ? x - inc(1) : (y as u8); }
fn odd(x: u8) -> u1 { return x & 1 == 1; }
fn sum(n: u8) -> u8 {
	var z: u8;
	for i: u8 in z .. n & 7 { z = sub(z, 0) + inc(i); }
	for i: u8 in inc(0) .. inc(n & 3) { var x: u8; x = x + i; z = z + x; }
	return z;
}
fn bits(x: u8) -> u8 {
	var r: u8;
	var v1: u8 = x;
	while more(v1) { if odd(v1) { r = inc(r); } v1 = v1 >> 1; }
	return r;
}
fn more(o: u8) -> u1 { return o > 0; }
fn pick(c: u1, x: u8, r: u8) -> u8 {
	var z: u8 = inc(r);
	if !c { let t = z + x; z = t; } else if odd(x) { let t: s4 = low(3); if odd(t as u8) { z = 9; } } else if odd(inc(z)) { z = 3; } else { let t: u1 = odd(r); z = t as u8; }
	return sub(z, 1);
}
fn never() -> u8 { return inc(inc(inc(0))); }
fn forever(x: u8) -> u8 { var i: u8; while odd(1) { i = inc(i); } return i + x; }
`

// program returns the program whose kernel has these statements.
func program(statements string) api.Node {
	return mustType(functions + "kernel k(x: u8, y: s8, a: u8[4], b: s8[3], q: in u8, r: in s8, c: in u1, o: out u8, p: out s8) -> u8 {\nvar z: u8;\n" + statements + "\nreturn z;\n}")
}

// environments are some that fit these programs.
func environments() []api.Env {
	arrays := [][]uint64{{1, 2, 0, 255}, {128, 0, 9}}
	return []api.Env{
		{Scalars: []uint64{0, 0}, Arrays: arrays, Ins: [][]uint64{{3, 2, 4, 0, 1, 6, 255, 5}, {250, 4, 3}, {1, 1, 0, 1}, nil, nil}},
		{Scalars: []uint64{5, 200}, Arrays: arrays, Ins: [][]uint64{{0, 0, 1, 1, 2, 2, 3, 3}, {1, 2, 3}, {0, 1, 0}, nil, nil}},
		{Scalars: []uint64{254, 3}, Arrays: arrays, Ins: [][]uint64{{9, 4, 2, 6, 8, 100, 3, 1}, {200, 100, 0}, {1, 0, 0, 1, 1}, nil, nil}},
	}
}

// statements are tables of what the kernel may do, by the place where calls stand.
func statements() map[string][]string {
	return map[string][]string{
		"values":              {"let v = z();", "z = inc(x);", "let v = sub(x, 3); z = v;", "var v: s4 = low(y); z = v as u8;", "z = sum(x);", "z = bits(x);", "z = mix(x, y, true);", "z = pick(false, x, 4) + pick(true, 2, x);"},
		"operands":            {"z = -inc(x) * ~sum(x);", "z = x - inc(x) << inc(1);", "z = 3 - inc(x);", "z = (odd(x) ? inc(1) : sum(2)) - 1;", "z = (low(y) as s16 >> 1) as u8;", "let v = odd(x) && more(x) || !odd(3); z = v as u8;", "let v = 3 < inc(x); z = v as u8;", "let v = low(-3) <= low(y); z = v as u8;"},
		"beside receives":     {"z = recv(q) + inc(recv(q));", "z = recv(q) - inc(recv(q)) - recv(q);", "z = inc(recv(q)) - recv(q);", "z = recv(q) - recv(q) - z() - recv(q) - recv(q);", "z = (recv(q) - x) * (recv(q) + inc(x));", "z = recv(q) - (x - (recv(q) - sum(recv(q))));", "z = recv(c) ? recv(q) : inc(2);", "z = odd(3) ? recv(q) : recv(q);", "z = recv(c) && odd(recv(q)) && recv(c) ? 1 : recv(q);", "z = (recv(r) + low(recv(r)) as s8) as u8;", "z = a[recv(q)] - a[inc(recv(q))] - a[recv(q)];"},
		"arguments":           {"z = inc(inc(inc(x)));", "z = sub(inc(x), sub(x, inc(5)));", "z = sub(recv(q), recv(q));", "z = sub(recv(q), inc(recv(q)));", "z = sub(inc(recv(q)), recv(q));", "z = sub(recv(q) + inc(recv(q)), sub(recv(q), recv(q) - z()));", "z = mix(sum(recv(q)), low(recv(r)) as s8, odd(recv(q)));", "z = pick(odd(recv(q)), recv(q), bits(recv(q)));", "z = sum(sum(sum(recv(q))));", "z = sub(a[inc(0)], a[recv(q)]);"},
		"indexes and stores":  {"a[inc(1)] = 9;", "a[1] = inc(9);", "a[inc(x) & 3] = sum(x);", "a[recv(q)] = inc(recv(q));", "a[inc(recv(q))] = recv(q);", "a[inc(recv(q))] = sub(recv(q), a[1]);", "a[sum(200)] = inc(1);", "b[odd(recv(q))] = low(recv(r)) as s8;", "z = a[a[inc(a[2])]];", "a[z()] = 1; z = a[z()];"},
		"sent words":          {"send o(inc(recv(q)));", "send o(recv(q) - inc(recv(q)));", "send p(low(recv(r)) as s8); send o(z());", "send o(1); send o(inc(recv(q))); send o(sub(recv(q), recv(q)));", "while recv(c) { send o(sum(recv(q))); send p(3); }"},
		"conditions of Ifs":   {"if odd(x) { z = 1; }", "if odd(recv(q)) { z = recv(q); } else { z = 1; }", "if recv(c) && odd(recv(q)) { send o(inc(1)); } else { z = recv(q); }", "if recv(c) { z = 2; } else if odd(recv(q)) { z = inc(z); } else if odd(recv(q)) { send o(z); } else { z = inc(recv(q)); }", "if odd(x) { if odd(inc(x)) { z = 1; } else if recv(c) { z = inc(2); } } else if recv(c) { z = 3; } else if more(recv(q)) { z = 4; }", "if false { z = forever(1); } else if true { z = 2; } else if odd(forever(2)) { z = 5; }"},
		"bounds of Fors":      {"for i: u8 in inc(0) .. inc(x & 3) { z = z + i; }", "for i: u8 in recv(q) .. inc(recv(q)) { z = z - i; }", "for i: u8 in inc(0) .. recv(q) & 7 { send o(recv(q)); }", "for i: s4 in low(-3) .. low(2) { z = z + sum(i as u8); send o(z); }", "for i: u8 in 0 .. sum(2) { for j: u8 in inc(i) .. bits(7) { z = inc(z) + j; } }", "for i: u8 in 0 .. 3 { var v: u8; v = inc(v); z = z + v; }", "for v1: u8 in 0 .. inc(2) { let v2 = inc(v1); z = z + v2; }"},
		"conditions of loops": {"while odd(recv(q)) { z = z + 1; }", "while more(recv(q)) { z = z + 1; send o(z); }", "while recv(c) && more(sub(recv(q), 3)) { send o(recv(q)); }", "while odd(recv(q)) || recv(c) { a[1] = inc(a[1]); }", "while sub(3, z) > 0 { z = z + 1; let v = recv(q); send o(v); }", "while more(recv(q)) { while odd(recv(q)) { send o(sum(1)); } send o(inc(z)); }", "while sum(z) < 9 { if odd(recv(q)) { z = inc(z); } else if more(recv(q)) { let v = 1 as u8; z = z + v; } }", "while inc(recv(q)) != 3 { }", "while false && odd(recv(q)) { z = forever(z); }", "for i: u8 in 0 .. 3 { while odd(recv(q)) { z = z + i; } send o(i); }"},
		"never called":        {"", "z = recv(q) + 1;", "while recv(c) { for i: u8 in 0 .. 3 { send o(recv(q)); } }"},
	}
}

// P7.1 and P7.2: calls at all places, in several environments, with inputs that are cut off at each place.
func TestStatements(t *testing.T) {
	for place, table := range statements() {
		statuses := map[int]int{}
		for _, s := range table {
			n := program(s)
			got := inlined(t, n)
			for _, env := range environments() {
				compareCuts(t, n, got, env, 5000, statuses)
			}
		}
		if statuses[api.Fuel] > 0 || statuses[api.Done] < 10 {
			t.Errorf("%s: %v", place, statuses)
		}
		if receives := strings.Contains(strings.Join(table, ""), "recv"); receives && statuses[api.Starved] < 5 {
			t.Errorf("%s: %v", place, statuses)
		}
	}
}

// P7.2: a receive that comes ahead of a call which does not end is starved all the same, and everything that happens ahead of it has happened.
func TestReceivesComeFirst(t *testing.T) {
	for _, s := range []string{
		"z = recv(q) + forever(1);", "z = -(x * (recv(q) + 1)) + forever(1);", "z = sub(recv(q), forever(1));", "z = sub(1, inc(recv(q)) + forever(1));", "z = mix(recv(q), y, odd(forever(1)));",
		"z = odd(recv(q)) ? 1 : forever(1);", "z = true ? recv(q) : forever(1);", "z = a[recv(q)] + forever(1);", "let v = recv(q) < forever(1);", "let v = recv(q) as u1 && odd(forever(1));", "var v: u8 = inc(recv(q) + forever(1));",
		"a[recv(q)] = forever(1);", "a[1] = recv(q) + forever(1);", "a[recv(q) + forever(1)] = 1;", "send o(recv(q) + forever(1));", "if recv(q) == forever(1) { z = 1; }", "if x > 0 && x < 0 { } else if recv(q) == forever(1) { }",
		"for i: u8 in recv(q) .. forever(1) { }", "for i: u8 in 0 .. recv(q) + forever(1) { }", "while recv(q) == forever(1) { }", "for i: u8 in 0 .. 2 { z = recv(q) + forever(1); }", "while inc(x) == inc(x) { z = recv(q); if z != z { z = forever(1); } }",
	} {
		n := program("a[0] = 77; send o(78); let w = inc(recv(q)); a[1] = w; send p(1);\n" + s)
		got := inlined(t, n)
		env := environments()[0]
		for _, env.Ins[0] = range [][]uint64{nil, {5}} {
			if status := compare(t, n, got, env, 3000); status != api.Starved {
				t.Errorf("%s: the status is %d", s, status)
			}
		}
		env.Ins[0] = []uint64{5, 6}
		if out, _ := interp.Run(got, env, 3000); out.Status == api.Done {
			t.Errorf("%s: %v", s, out)
		}
	}
}

// P7.1: the returned word of a kernel, and kernels without a result, parameters or statements.
func TestKernels(t *testing.T) {
	statuses := map[int]int{}
	for _, s := range []string{
		"kernel k() { }", "kernel k() -> u8 { return z(); }", "kernel k() -> u8 { return 5; }", "kernel v1(inc: u8) -> u8 { return inc(inc); }", "kernel k(v1: u8, v2: u8) -> u8 { return inc(v1) - inc(v2); }", "kernel k(v3: u8) -> u1 { let v1 = inc(v3); return odd(v1); }",
		"kernel k(x: u8) -> u8 { return pick(odd(x), sum(x), bits(x)); }", "kernel k(x: u8) { let y = low(x as s8); }", "kernel k(x: u8) { if odd(x) { } while odd(2) { } for i: u8 in inc(x) .. 0 { } }",
	} {
		n := mustType(functions + s)
		got := inlined(t, n)
		params, _ := kernelOf(n)
		for x := range 30 {
			env := api.Env{Scalars: []uint64{uint64(x * 9 % 256), uint64(x * x % 256)}[:len(params)]}
			statuses[compare(t, n, got, env, 5000)]++
		}
	}
	for _, s := range []string{"return inc(recv(q)) - recv(q);", "return recv(q) - inc(recv(q));", "return recv(q) - sub(recv(q), recv(q));"} {
		n := mustType(functions + "kernel k(q: in u8) -> u8 { " + s + " }")
		compareCuts(t, n, inlined(t, n), api.Env{Ins: [][]uint64{{9, 7, 4}}}, 5000, statuses)
	}
	if statuses[api.Fuel] > 0 || statuses[api.Starved] < 10 {
		t.Errorf("%v", statuses)
	}
}

// P7.1: the chapter's examples.
func TestExamples(t *testing.T) {
	n := mustType("fn f(a: u8) -> u8 { return a + 1; }\nkernel k(q: in u8) -> u8 { var x: u8; x = recv(q) + f(recv(q)); return x; }")
	out, _ := interp.Run(inlined(t, n), api.Env{Ins: [][]uint64{{10, 200}}}, plenty)
	if want := []uint64{211}; out.Status != api.Done || !slices.Equal(out.Rets, want) {
		t.Errorf("%v", out)
	}
	n = mustType("fn f(a: u8) -> u1 { return a < 3; }\nkernel k(o: out u8) { var x: u8; while f(x) { x = x + 1; send o(x); } }")
	out, _ = interp.Run(inlined(t, n), api.Env{Ins: [][]uint64{nil}}, plenty)
	if want := []uint64{1, 2, 3}; out.Status != api.Done || !slices.Equal(out.Outs[0], want) {
		t.Errorf("%v", out)
	}
}

// P7.1: the loops of the kernel keep their order and what describes them, those of functions come in the order in which calls are evaluated.
func TestLoops(t *testing.T) {
	n := mustType(`fn f(x: u8) -> u8 { var s: u8;
# unroll 8
for i: u8 in 0 .. x { s = s + i; } return s; }
fn g(x: u8) -> u8 { var s: u8 = x;
# pipeline 5
while f(s) > x { s = s - 1; } return s; }
kernel k(x: u8, q: in u8) {
# unroll # pipeline 3
for i: u8 in g(x) .. f(x) {
	while f(g(i)) > 1 { }
}
# pipeline
while f(recv(q)) > 1 {
	# unroll 2
	for j: u8 in 0 .. 2 { }
} }`)
	const f, g = 2, 5
	loops := inlined(t, n)
	var lines []int
	for _, l := range loopsOf(loops) {
		lines = append(lines, l.line)
	}
	want := []int{f, g, f, f, 8, f, g, f, f, 10, f, g, f, f, f, 12, 14, f}
	if !slices.Equal(lines, want) {
		t.Errorf("%s\nhas loops in the lines %v, not %v", shown(loops), lines, want)
	}
	for _, l := range []loop{{api.NodeFor, 3, 1, 8}, {api.NodeWhile, 0, 0, 10}, {api.NodeWhile, 1, 0, 12}, {api.NodeFor, 0, 2, 14}} {
		if !slices.Contains(loopsOf(loops), l) {
			t.Errorf("%s\nhas not the loop %v", shown(loops), l)
		}
	}
}

// P7.1: whatever lines the loops have, also several ones with the same line, they are kept.
func TestLinesOfLoops(t *testing.T) {
	for _, line := range []int{0, -7, 1, 1 << 40} {
		n := program("# unroll 3 while odd(x) { for i: u8 in inc(0) .. inc(x) { } }\n# pipeline 2 for i: u8 in 0 .. x { while more(z) { } }")
		var change func(n *api.Node)
		change = func(n *api.Node) {
			n.Line = line
			for i := range n.Kids {
				change(&n.Kids[i])
			}
		}
		change(&n)
		inlined(t, n)
	}
}

// P7.1: functions that are never called play no role, however many and heavy they are.
func TestFunctionsNeverCalled(t *testing.T) {
	kernel := "kernel k(x: u8, q: in u8) -> u8 { let v1 = recv(q); for i: u8 in 0 .. x { } return v1 - x; }"
	n := mustType(doubling(40, "x") + functions + kernel)
	if got := inlined(t, n); !parser.Same(got, mustType(kernel)) {
		t.Errorf("%s", shown(got))
	}
	n = mustType(doubling(40, "x") + "fn two(x: u8) -> u8 { return 2; } kernel k() -> u8 { return two(1); }")
	got := inlined(t, n)
	if out, _ := interp.Run(got, api.Env{}, plenty); !slices.Equal(out.Rets, []uint64{2}) {
		t.Errorf("%v", out)
	}
}

// P7.1: trees that are not typed, with what they call.
func TestNotTyped(t *testing.T) {
	typed := mustType(functions + "kernel k() -> u8 { return inc(1); }")
	wrong := mustType(functions + "kernel k() -> u8 { return inc(1); }")
	_, kernel := kernelOf(wrong)
	kernel.Kids[0].Kids[0].Kids[0].Type.Width = 9
	noKernel := api.Node{Kind: api.NodeProgram, Kids: typed.Kids[:2]}
	twice := api.Node{Kind: api.NodeProgram, Kids: slices.Concat(typed.Kids, typed.Kids)}
	_, kernel = kernelOf(typed)
	list := []api.Node{{}, {Kind: -1}, kernel, parsed(functions + "kernel k() -> u8 { return inc(1); }"), parser.Bare(typed), wrong, noKernel, twice,
		parsed(""), parsed("kernel k() { x = f(); }"), parsed("kernel k() { var x: u8; x = f(); }"), parsed("fn f() -> u8 { return g(); } fn g() -> u8 { return f(); } kernel k() { }"), parsed("fn f(x: u8) -> u8 { return f(x); } kernel k() { }")}
	for _, s := range []string{"x = recv(q);", "send o(x);", "a[1] = x;", "x = a[1];", "for i: u8 in 0 .. 3 { x = recv(q); }"} {
		list = append(list, swapped(mustType("fn f() -> u8 { var z: u8; return z; } kernel k(q: in u8, o: out u8, a: u8[2]) -> u8 { var x: u8; "+s+" return x; }")))
	}
	for _, n := range list {
		checkNotTyped(t, n)
	}
}

// swapped returns a typed program after the blocks of its function and its kernel have been exchanged, which leaves all types as they are.
func swapped(n api.Node) api.Node {
	function, kernel := n.Kids[0].Kids, n.Kids[1].Kids
	last := len(kernel) - 1
	function[0], kernel[last] = kernel[last], function[0]
	return n
}

func checkNotTyped(t *testing.T, n api.Node) {
	t.Helper()
	if got, e := inline.Inline(n); e != api.ErrForm || !parser.Same(got, api.Node{}) || got.Line != 0 {
		t.Errorf("Inline(%s) returns %s, error %d", shown(n), shown(got), e)
	}
	if got := inline.Weight(n); got != 0 {
		t.Errorf("Weight(%s) = %d", shown(n), got)
	}
	if got := inline.Order(n); len(got) > 0 {
		t.Errorf("Order(%s) = %v", shown(n), got)
	}
	if got, want := inline.Calls(n), called(n); !slices.Equal(got, want) {
		t.Errorf("Calls(%s) = %v, not %v", shown(n), got, want)
	}
}
