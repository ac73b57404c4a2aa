package interp_test

import (
	"fmt"
	"reflect"
	"slices"
	"testing"

	"jacquard/api"
	"jacquard/interp"
	"jacquard/parser"
	"jacquard/types"
)

// mustType returns the typed tree of a source.
func mustType(source string) api.Node {
	n, line, e := parser.Parse(source)
	if e != api.OK {
		panic(fmt.Sprintf("Parse(%.3000s): line %d, error %d", source, line, e))
	}
	n, line, e = types.Check(n)
	if e != api.OK {
		panic(fmt.Sprintf("Check(%.3000s): line %d, error %d", source, line, e))
	}
	return n
}

// mainOf returns the kernel of a program.
func mainOf(program api.Node) api.Node {
	return program.Kids[slices.IndexFunc(program.Kids, func(n api.Node) bool { return n.Kind == api.NodeKernel })]
}

// lists returns a copy of some lists, with nil for empty ones.
func lists(given [][]uint64) [][]uint64 {
	var all [][]uint64
	for _, list := range given {
		all = append(all, append([]uint64(nil), list...))
	}
	return all
}

func copied(env api.Env) api.Env {
	return api.Env{Scalars: append([]uint64(nil), env.Scalars...), Arrays: lists(env.Arrays), Ins: lists(env.Ins)}
}

// plain returns a copy of an outcome, with nil for empty lists.
func plain(out api.Outcome) api.Outcome {
	return api.Outcome{Status: out.Status, Rets: append([]uint64(nil), out.Rets...), Arrays: lists(out.Arrays), Outs: lists(out.Outs), Path: append([]int(nil), out.Path...)}
}

// sameOutcome reports whether two outcomes are equal, if empty lists are equal to nil.
func sameOutcome(a, b api.Outcome) bool { return reflect.DeepEqual(plain(a), plain(b)) }

// run returns the outcome of a run that must be possible.
func run(t *testing.T, program api.Node, env api.Env, fuel int) api.Outcome {
	t.Helper()
	out, e := interp.Run(program, env, fuel)
	if e != api.OK {
		t.Fatalf("%v in %v: error %d", program, env, e)
	}
	return out
}

// plenty is fuel for all programs of the tests that end.
const plenty = 1 << 20

// streamsOf returns the streams of the kernel of a program.
func streamsOf(program api.Node) []api.Node {
	var all []api.Node
	for _, n := range mainOf(program).Kids {
		if n.Kind == api.NodeIn || n.Kind == api.NodeOut {
			all = append(all, n)
		}
	}
	return all
}
