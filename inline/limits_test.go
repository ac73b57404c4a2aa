package inline_test

import (
	"fmt"
	"sort"
	"strings"
	"testing"

	"jacquard/api"
	"jacquard/inline"
	"jacquard/interp"
	"jacquard/parser"
)

// checkLimit reports a program for which Inline does not return ErrLimit.
func checkLimit(t *testing.T, n api.Node) {
	t.Helper()
	if got, e := inline.Inline(n); e != api.ErrLimit || !parser.Same(got, api.Node{}) || got.Line != 0 {
		t.Errorf("%s: error %d, %s", shown(n), e, shown(got))
	}
}

// depths returns the sum of the Depths of the kernel and of all functions.
func depths(program api.Node) int {
	sum := 0
	for _, n := range program.Kids {
		sum += parser.Depth(n)
	}
	return sum
}

// isSmall reports whether the chapter promises that there is a result.
func isSmall(program api.Node) bool { return inline.Weight(program) <= 4000 && depths(program) <= 50 }

// P7.1: results with as many nodes as there may be, and with one more.
func TestNodesAtTheLimit(t *testing.T) {
	f := "fn f(x: u8) -> u8 { var z: u8; " + strings.Repeat("z = z + x; ", 400) + "return z; }\n"
	build := func(pairs, threes int) api.Node {
		return mustType(f + "kernel k(x: u8) -> u8 { var z: u8; " + strings.Repeat("z = f(z); ", 10) + strings.Repeat("z = z; ", pairs) + strings.Repeat("z = -z; ", threes) + "return z; }")
	}
	left := api.MaxNodes - parser.Count(inlined(t, build(0, 0)))
	if left < 1000 || left > 15000 {
		t.Fatalf("%d nodes are left", left)
	}
	for threes := range 4 {
		pairs := (left - 3*threes) / 2
		n := build(pairs, threes)
		if got := inlined(t, n); left-parser.Count(n) > 0 || parser.Count(got) != api.MaxNodes-(left-3*threes)%2 {
			t.Errorf("the result has %d nodes", parser.Count(got))
		}
		checkLimit(t, build(pairs+1, threes))
	}
}

// P7.1: results with as many levels as there may be, and with one more.
func TestLevelsAtTheLimit(t *testing.T) {
	nested := func(count int, s string) string {
		return strings.Repeat("if x > 0 { ", count) + s + strings.Repeat(" }", count)
	}
	build := func(signs int) api.Node {
		return mustType("fn f(x: u8) -> u8 { var z: u8; " + nested(40, "z = "+strings.Repeat("-", signs)+"x;") + " return z; }\nkernel k(x: u8) { " + nested(45, "let y = f(x);") + " }")
	}
	signs := api.MaxNesting - parser.Depth(inlined(t, build(0)))
	if signs < 5 || signs > 100 {
		t.Fatalf("%d levels are left", signs)
	}
	n := build(signs)
	got := inlined(t, n)
	if parser.Depth(got) != api.MaxNesting {
		t.Errorf("the result has %d levels", parser.Depth(got))
	}
	out, _ := interp.Run(got, api.Env{Scalars: []uint64{3}}, plenty)
	if out.Status != api.Done {
		t.Errorf("%v", out)
	}
	checkLimit(t, build(signs+1))
}

// P7.1: chains of functions that are too heavy end at once, others have results.
func TestChains(t *testing.T) {
	limits := 0
	for count := range 63 {
		for _, kernel := range []string{"kernel k(x: u8) -> u8 { return d0(x); }", "kernel k(x: u8) -> u8 { while d0(x) > 1 { if d0(x) > 2 { } } return 1; }"} {
			n := mustType(doubling(count, "x") + kernel)
			switch got, e := inline.Inline(n); e {
			case api.OK:
				checkResult(t, n, got)
				compare(t, n, got, api.Env{Scalars: []uint64{uint64(count)}}, 1<<14)
			default:
				limits++
				checkLimit(t, n)
				if isSmall(n) {
					t.Errorf("%d functions and %s: error %d", count, kernel, e)
				}
			}
		}
	}
	if limits < 80 || limits > 120 {
		t.Errorf("%d programs have no result", limits)
	}
}

// P7.1: many functions that call each other, but not often.
func TestLongChain(t *testing.T) {
	const count = 3000
	u1 := api.Type{Width: 1}
	n := api.Node{Kind: api.NodeProgram}
	unit := func(kind int, name string, value api.Node) {
		block := api.Node{Kind: api.NodeBlock, Kids: []api.Node{{Kind: api.NodeReturn, Kids: []api.Node{value}}}}
		n.Kids = append(n.Kids, api.Node{Kind: kind, Name: name, Type: u1, Kids: []api.Node{block}})
	}
	for i := range count {
		unit(api.NodeFunction, fmt.Sprint("f", i), api.Node{Kind: api.NodeCall, Name: fmt.Sprint("f", i+1), Type: u1})
	}
	unit(api.NodeFunction, fmt.Sprint("f", count), api.Node{Kind: api.NodeNumber, Num: 1, Type: u1})
	unit(api.NodeKernel, "k", api.Node{Kind: api.NodeCall, Name: "f0", Type: u1})
	got := inlined(t, n)
	if out, _ := interp.Run(got, api.Env{}, plenty); out.Status != api.Done || out.Rets[0] != 1 {
		t.Errorf("%v", out)
	}
}

// P7.1: there is a result if the weight is at most 4000, and the depths add up to at most 50, whatever the statements are.
func TestPromisedResults(t *testing.T) {
	const head = `
fn one() -> u8 { return 1; }
fn many(a: u8, b: u8, c: u8, d: u8) -> u8 { return a; }
fn test() -> u1 { return 1; }
fn loop() -> u1 { while test() { } return 1; }
kernel k(x: u8, q: in u8, c: in u1) { var z: u8; `
	for _, s := range []string{
		"z = one();", "z = recv(q) + one();", "z = recv(q) + recv(q) - recv(q) * recv(q) + recv(q) + recv(q) + recv(q) + one();", "z = many(recv(q), recv(q), recv(q), recv(q));", "z = many(recv(q), recv(q), recv(q), one()) + one();", "z = many(many(1, 2, 3, 4), many(1, 2, 3, 4), one(), one());",
		"while test() { }", "while recv(c) & recv(c) & test() { }", "while loop() { }", "while many(recv(q), recv(q), recv(q), recv(q) + one()) > 0 { while recv(c) && test() { } }", "for i: u8 in recv(q) .. one() { }", "if test() { } else if test() { } else if test() { } else if test() { }", "if recv(c) == test() { z = 1; } else if recv(c) == test() { if test() { } }",
	} {
		count := sort.Search(1000, func(count int) bool { return !isSmall(mustType(head + strings.Repeat(s, count+1) + " }")) })
		n := mustType(head + strings.Repeat(s, count) + " }")
		if got := inlined(t, n); inline.Weight(n) < 3700 {
			t.Errorf("%s: the weight is only %d, %d nodes", s, inline.Weight(n), parser.Count(got))
		}
	}
}

// P7.1: the same for deep programs.
func TestPromisedDeepResults(t *testing.T) {
	for _, part := range [][2]string{
		{"if test() { ", " }"}, {"if test() { } else ", ""}, {"while test() { ", " }"}, {"for i%d: u8 in one() .. 3 { ", " }"}, {"if test() { } else if true { if test() { } } else ", ""}, {"while recv(c) && test() { if test() { } else if true { ", " } }"},
	} {
		build := func(count int) api.Node {
			s := ""
			for i := range count {
				s += strings.ReplaceAll(part[0], "%d", fmt.Sprint(i))
			}
			return mustType("fn one() -> u8 { return 1; } fn test() -> u1 { return 1; } kernel k(c: in u1) { " + s + "if test() { }" + strings.Repeat(part[1], count) + " }")
		}
		count := 1
		for isSmall(build(count + 1)) {
			count++
		}
		n := build(count)
		if got := inlined(t, n); depths(n) < 47 {
			t.Errorf("%s: the depths are only %d, and %d of the result", part, depths(n), parser.Depth(got))
		}
	}
	for _, s := range []string{"return f%d();", "while f%d() { } return 1;", "if true { } else if f%d() { } return 1;"} {
		var units string
		const count = 7
		for i := range count {
			units += fmt.Sprintf("fn f%d() -> u1 { "+s+" }\n", i, i+1)
		}
		n := mustType(units + fmt.Sprintf("fn f%d() -> u1 { return 1; } kernel k() -> u1 { while f0() { } return 1; }", count))
		if !isSmall(n) {
			t.Errorf("%s: the weight is %d, the depths are %d", s, inline.Weight(n), depths(n))
		}
		inlined(t, n)
	}
}
