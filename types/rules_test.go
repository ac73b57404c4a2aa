package types_test

import (
	"reflect"
	"strings"
	"testing"
	"unsafe"

	"jacquard/api"
	"jacquard/parser"
	"jacquard/types"
)

// results calls all functions on a tree. The first results are trees.
func results(n api.Node) []any {
	tree, line, e := types.Check(n)
	kernel, one := types.Kernel(n)
	function, found := types.Function(n, "f0")
	return []any{tree, kernel, function, line, e, one, found, types.Typed(n), types.Open(n)}
}

// spacious returns a copy of a tree in which all Kids have spare capacity with nodes in it, and a function that lists all nodes of the copy, these as well.
func spacious(n api.Node) (api.Node, func() []api.Node) {
	var lists [][]api.Node
	tree := changed(n, func(*api.Node) {})
	for part := range nodes(&tree) {
		kids := append(make([]api.Node, 0, len(part.Kids)+2), part.Kids...)
		part.Kids = kids
		lists = append(lists, append(kids, api.Node{Kind: api.NodeVar, Name: "spare"}, api.Node{Line: 9}))
	}
	return tree, func() []api.Node {
		var all []api.Node
		for _, list := range lists {
			all = append(all, list...)
		}
		return all
	}
}

// R2 and R3 for P5.1: arguments stay as they are, results share no memory with them, and calls leave nothing behind.
func TestArgumentsStay(t *testing.T) {
	list := oddTrees()[:300]
	for n, typed := range samples(11, 200) {
		list = append(list, n, typed)
	}
	for _, c := range programs {
		list = append(list, parsed(t, c.source))
	}
	for _, n := range list {
		given, all := spacious(n)
		before := changedList(all())
		want := results(n)
		got := results(given)
		if !same(got, want) || !reflect.DeepEqual(changedList(all()), before) {
			t.Fatalf("%s has become %s: %v, not %v", shown(n), shown(given), got, want)
		}
		for _, tree := range got[:3] {
			spoil(tree.(api.Node))
		}
		if !reflect.DeepEqual(changedList(all()), before) || !same(results(given), want) {
			t.Fatalf("a result for %s shares memory with it", shown(n))
		}
	}
}

// changedList returns a copy of a list of trees.
func changedList(list []api.Node) []api.Node {
	return duplicate(api.Node{Kids: list}).Kids
}

// same reports whether two lists of results are equal, if empty Kids are equal to nil.
func same(a, b []any) bool {
	for i, x := range a[:3] {
		if !reflect.DeepEqual(duplicate(x.(api.Node)), duplicate(b[i].(api.Node))) {
			return false
		}
	}
	return reflect.DeepEqual(a[3:], b[3:])
}

// spoil overwrites all nodes below the first one of a tree, with the spare capacity of Kids.
func spoil(n api.Node) {
	kids := n.Kids[:cap(n.Kids)]
	for i, kid := range kids {
		spoil(kid)
		kids[i] = api.Node{Kind: -1, Name: "spoilt", Kids: kids}
	}
}

// R3 for P5.1: no two lists of Kids of a result share memory, and its names are no parts of the argument's.
func TestResultsAreNew(t *testing.T) {
	for n, typed := range samples(12, 100) {
		shared := map[unsafe.Pointer]bool{}
		for _, given := range []*api.Node{&n, &typed} {
			for part := range nodes(given) {
				part.Name = strings.Clone(part.Name)
				shared[unsafe.Pointer(unsafe.StringData(part.Name))] = part.Name != ""
			}
		}
		tree, _, _ := types.Check(n)
		again, _, _ := types.Check(typed)
		kernel, _ := types.Kernel(typed)
		function, _ := types.Function(typed, "f1")
		for _, result := range []api.Node{tree, again, kernel, function} {
			for part := range nodes(&result) {
				if shared[unsafe.Pointer(unsafe.StringData(part.Name))] {
					t.Fatalf("the name %q of %s is shared", part.Name, shown(n))
				}
				for i := range part.Kids {
					if shared[unsafe.Pointer(&part.Kids[i])] {
						t.Fatalf("two lists of %s share memory", shown(result))
					}
					shared[unsafe.Pointer(&part.Kids[i])] = true
				}
			}
		}
	}
}

// R2 for P5.2: a program that breaks rules leaves nothing behind.
func TestCallsAreIndependent(t *testing.T) {
	n := parsed(t, wrap("let v = two(x, b) + 1;"))
	want, _, e := types.Check(n)
	for _, c := range badStatements {
		types.Check(parsed(t, wrap(c.s)))
	}
	again, _, f := types.Check(n)
	if e != api.OK || f != api.OK || !parser.Same(again, want) {
		t.Errorf("%d, %s, then %d, %s", e, shown(want), f, shown(again))
	}
}
