package inline_test

import (
	"fmt"
	"reflect"
	"slices"
	"testing"

	"jacquard/api"
	"jacquard/inline"
	"jacquard/interp"
	"jacquard/parser"
	"jacquard/types"
)

// parsed returns the tree of a source, without types.
func parsed(source string) api.Node {
	n, line, e := parser.Parse(source)
	if e != api.OK {
		panic(fmt.Sprintf("Parse(%.3000s): line %d, error %d", source, line, e))
	}
	return n
}

// mustType returns the typed tree of a source.
func mustType(source string) api.Node {
	n, line, e := types.Check(parsed(source))
	if e != api.OK {
		panic(fmt.Sprintf("Check(%.3000s): line %d, error %d", source, line, e))
	}
	return n
}

// shown writes a tree for messages: as a source if that is possible.
func shown(n api.Node) string {
	s, e := parser.Format(n)
	if e != api.OK {
		s = fmt.Sprint(n)
	}
	return fmt.Sprintf("%.3000s", s)
}

// each calls a function for all nodes of a tree, each one ahead of its Kids.
func each(n api.Node, visit func(n api.Node)) {
	visit(n)
	for _, kid := range n.Kids {
		each(kid, visit)
	}
}

// calls returns the Calls of a tree.
func calls(n api.Node) []api.Node {
	var list []api.Node
	each(n, func(n api.Node) {
		if n.Kind == api.NodeCall {
			list = append(list, n)
		}
	})
	return list
}

// loop describes a loop as the chapter does.
type loop struct{ kind, pipeline, unroll, line int }

// loopsOf returns the loops of a tree in the order of the source.
func loopsOf(n api.Node) []loop {
	var list []loop
	each(n, func(n api.Node) {
		if n.Kind == api.NodeFor || n.Kind == api.NodeWhile {
			list = append(list, loop{n.Kind, n.Pipeline, n.Unroll, n.Line})
		}
	})
	return list
}

// kernelOf returns the parameters of a program's kernel, and the kernel.
func kernelOf(program api.Node) ([]api.Node, api.Node) {
	kernel := program.Kids[slices.IndexFunc(program.Kids, func(n api.Node) bool { return n.Kind == api.NodeKernel })]
	return kernel.Kids[:len(kernel.Kids)-1], kernel
}

// inlined returns the result of Inline for a typed program, which must be one of the results that the chapter permits, but for outcomes.
func inlined(t *testing.T, n api.Node) api.Node {
	t.Helper()
	got, e := inline.Inline(n)
	if e != api.OK {
		t.Fatalf("%s: error %d", shown(n), e)
	}
	checkResult(t, n, got)
	return got
}

func checkResult(t *testing.T, n, got api.Node) {
	t.Helper()
	if !types.Typed(got) || len(got.Kids) != 1 || got.Kids[0].Kind != api.NodeKernel || len(calls(got)) > 0 {
		t.Fatalf("%s became %s, which is not a typed kernel without calls", shown(n), shown(got))
	}
	params, kernel := kernelOf(n)
	newParams, newKernel := kernelOf(got)
	if newKernel.Name != kernel.Name || newKernel.Type != kernel.Type || !slices.EqualFunc(newParams, params, parser.Same) {
		t.Fatalf("%s became %s, which has another interface", shown(n), shown(got))
	}
	if len(calls(kernel)) == 0 && !parser.Same(got, api.Node{Kind: api.NodeProgram, Kids: []api.Node{kernel}}) {
		t.Fatalf("%s without calls became %s", shown(n), shown(got))
	}
	left := loopsOf(kernel)
	for _, l := range loopsOf(got) {
		if len(left) > 0 && l == left[0] {
			left = left[1:]
		}
	}
	if len(left) > 0 {
		t.Fatalf("%s became %s, which has not the loop %v in its place", shown(n), shown(got), left[0])
	}
}

// lists returns a copy of some lists, with nil for empty ones.
func lists(given [][]uint64) [][]uint64 {
	var all [][]uint64
	for _, list := range given {
		all = append(all, append([]uint64(nil), list...))
	}
	return all
}

// sameOutcome reports whether two outcomes are equal, if empty lists are equal to nil.
func sameOutcome(a, b api.Outcome) bool {
	return a.Status == b.Status && slices.Equal(a.Rets, b.Rets) && reflect.DeepEqual(lists(a.Arrays), lists(b.Arrays)) && reflect.DeepEqual(lists(a.Outs), lists(b.Outs))
}

// plenty is fuel for all results whose programs end with the fuel of the tests.
const plenty = 1 << 18

// compare reports a result that has not the outcome of its program in an environment, and returns the status of the program's run, whose outcome plays no role if its fuel is not enough.
func compare(t *testing.T, n, got api.Node, env api.Env, fuel int) int {
	t.Helper()
	want, e := interp.Run(n, env, fuel)
	if e != api.OK {
		t.Fatalf("%s in %v: error %d", shown(n), env, e)
	}
	if want.Status == api.Fuel {
		return api.Fuel
	}
	if out, e := interp.Run(got, env, plenty); e != api.OK || !sameOutcome(out, want) {
		t.Fatalf("%s\nin %v: %v, but %v, error %d for\n%s", shown(n), env, want, out, e, shown(got))
	}
	return want.Status
}

// compareCuts does this for the environment, and for all that have less inputs: each stream is cut off at each place, and all at once. It counts the statuses.
func compareCuts(t *testing.T, n, got api.Node, env api.Env, fuel int, statuses map[int]int) {
	t.Helper()
	statuses[compare(t, n, got, env, fuel)]++
	longest := 0
	for i, list := range env.Ins {
		longest = max(longest, len(list))
		for length := range list {
			cut := api.Env{Scalars: env.Scalars, Arrays: env.Arrays, Ins: slices.Clone(env.Ins)}
			cut.Ins[i] = list[:length]
			statuses[compare(t, n, got, cut, fuel)]++
		}
	}
	for length := range longest {
		cut := api.Env{Scalars: env.Scalars, Arrays: env.Arrays}
		for _, list := range env.Ins {
			cut.Ins = append(cut.Ins, list[:min(length, len(list))])
		}
		statuses[compare(t, n, got, cut, fuel)]++
	}
}
