package parser_test

import (
	"reflect"
	"strings"
	"testing"
	"unsafe"

	"jacquard/api"
	"jacquard/parser"
)

// results calls all functions on a tree, and on its source if it has one.
func results(n api.Node) []any {
	source, e := parser.Format(n)
	tree, line, parseError := parser.Parse(source)
	return []any{source, e, tree, line, parseError, parser.Valid(n), parser.Bare(n), parser.Same(n, n), parser.Same(n, tree), parser.Count(n), parser.Depth(n)}
}

// roomy returns a copy of a tree in which all Kids have spare capacity, which holds nodes as well.
func roomy(n api.Node) api.Node {
	spare := api.Node{Kind: api.NodeName, Name: "spare", Kids: []api.Node{{Line: 7}}}
	kids := []api.Node{}
	for _, kid := range n.Kids {
		kids = append(kids, roomy(kid))
	}
	n.Kids = append(kids, spare, spare)[:len(kids)]
	return n
}

// allKids returns a copy of a tree with the nodes in the spare capacity of its Kids.
func allKids(n api.Node) api.Node {
	kids := n.Kids[:cap(n.Kids)]
	n.Kids = nil
	for _, kid := range kids {
		n.Kids = append(n.Kids, allKids(kid))
	}
	return n
}

// spoil overwrites a tree, with the spare capacity of its Kids.
func spoil(n *api.Node) {
	n.Kids = n.Kids[:cap(n.Kids)]
	for i := range n.Kids {
		spoil(&n.Kids[i])
	}
	*n = api.Node{Kind: -9, Name: "spoilt", Line: -9, Kids: n.Kids}
}

// P4.1, R2 and R3: arguments stay unchanged, with their spare capacity, and no result shares memory with them or is kept.
func TestArgumentsStay(t *testing.T) {
	list := append(oddTrees(), parsed(t, full))
	for n := range trees(200) {
		list = append(list, n)
	}
	for _, n := range list {
		given := roomy(n)
		before := allKids(given)
		want := results(copied(n))
		got := results(given)
		if !reflect.DeepEqual(got, want) {
			t.Fatalf("%s: %v, then %v", shown(n), want, got)
		}
		for _, i := range []int{2, 6} {
			tree := got[i].(api.Node)
			spoil(&tree)
		}
		if after := allKids(given); !reflect.DeepEqual(after, before) {
			t.Fatalf("%s has become %s", shown(before), shown(after))
		}
		if again := results(given); !reflect.DeepEqual(again, want) {
			t.Fatalf("%s: %v, then %v", shown(n), want, again)
		}
	}
}

// checkSeparate reports a tree in which two Kids share memory.
func checkSeparate(t *testing.T, n api.Node) {
	t.Helper()
	seen := map[*api.Node]bool{}
	for part := range walk(&n) {
		for i := range part.Kids[:cap(part.Kids)] {
			kid := &part.Kids[:i+1][i]
			if seen[kid] {
				t.Fatalf("Kids of %s share memory", shown(n))
			}
			seen[kid] = true
		}
	}
}

// P4.1, R3: no two lists of a result share memory.
func TestKidsAreSeparate(t *testing.T) {
	for n := range trees(200) {
		s, _ := parser.Format(n)
		tree, _, _ := parser.Parse(s)
		checkSeparate(t, tree)
		checkSeparate(t, parser.Bare(n))
		kids := []api.Node{{Kind: api.NodeName, Name: "a", Kids: make([]api.Node, 1, 3)}}
		checkSeparate(t, parser.Bare(api.Node{Kids: append(kids, kids[0], n, n)}))
	}
}

// shares reports whether two strings have bytes in common memory.
func shares(a, b string) bool {
	from, start := uintptr(unsafe.Pointer(unsafe.StringData(a))), uintptr(unsafe.Pointer(unsafe.StringData(b)))
	return len(a) > 0 && len(b) > 0 && from < start+uintptr(len(b)) && start < from+uintptr(len(a))
}

// P4.1, R3: names of a result are no parts of an argument.
func TestNamesAreNew(t *testing.T) {
	source := strings.Clone(full)
	tree := parsed(t, source)
	bare := parser.Bare(tree)
	text, e := parser.Format(tree)
	given := map[string]string{}
	for part := range walk(&tree) {
		given[part.Name] = part.Name
		if shares(part.Name, source) {
			t.Fatalf("%q is a part of the source", part.Name)
		}
		if shares(part.Name, text) {
			t.Fatalf("%q is a part of the text", part.Name)
		}
	}
	for part := range walk(&bare) {
		for _, name := range given {
			if shares(part.Name, name) {
				t.Fatalf("%q of Bare is a part of the argument", part.Name)
			}
		}
	}
	if source != full || e != api.OK {
		t.Errorf("%d, %q", e, source)
	}
}

// P4.1, R2: a source that is wrong leaves nothing behind.
func TestCallsAreIndependent(t *testing.T) {
	want := parsed(t, full)
	text, _ := parser.Format(want)
	for i := range len(full) {
		parser.Parse(full[:i])
		parser.Parse(full[i:])
	}
	for _, n := range oddTrees() {
		parser.Format(n)
		parser.Valid(n)
	}
	if again, e := parser.Format(want); !reflect.DeepEqual(parsed(t, full), want) || again != text || e != api.OK {
		t.Errorf("%d, %q, then %q", e, text, again)
	}
}
