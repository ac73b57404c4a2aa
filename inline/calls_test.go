package inline_test

import (
	"fmt"
	"math/rand/v2"
	"slices"
	"strings"
	"testing"

	"jacquard/api"
	"jacquard/inline"
	"jacquard/types"
)

// called returns what Calls has to return.
func called(n api.Node) []string {
	var list []string
	for _, call := range calls(n) {
		if !slices.Contains(list, call.Name) {
			list = append(list, call.Name)
		}
	}
	return list
}

// P7.1: the order of the first calls, in whole programs and in parts of them.
func TestCalls(t *testing.T) {
	for _, c := range []struct{ source, want string }{
		{"", ""},
		{"kernel k() { }", ""},
		{"kernel k() { x = a(b(c), d()) + b(); }", "a b d"},
		{"kernel k() { a[b()] = c(); for i: u8 in d() .. e() { x = f(); } while g() { x = a(); } if h() { } else if i() { send o(j()); } return l() as u8; }", "b c d e f g a h i j l"},
		{"kernel k() { x = b() ? a() : b(a()); } fn f() -> u8 { return f(); } fn f() -> u8 { var a: u8 = a(g()); let b = -c(); return f; }", "b a f g c"},
	} {
		if got := strings.Join(inline.Calls(parsed(c.source)), " "); got != c.want {
			t.Errorf("Calls(%s) = %q, not %q", c.source, got, c.want)
		}
	}
	each(parsed("fn f() -> u8 { return a(b(a(c()))) + d(); }"+functions), func(n api.Node) {
		if got, want := inline.Calls(n), called(n); !slices.Equal(got, want) {
			t.Errorf("Calls(%s) = %v, not %v", shown(n), got, want)
		}
	})
}

// strange returns a tree that has any kinds and names.
func strange(r *rand.Rand, levels int) api.Node {
	kinds := []int{api.NodeCall, api.NodeCall, api.NodeName, api.NodeFunction, api.NodeKernel, api.NodeProgram, -1, r.IntN(30)}
	n := api.Node{Kind: kinds[r.IntN(len(kinds))], Name: []string{"", "f", "g", "h", "no name"}[r.IntN(5)], Line: r.IntN(9) - 4}
	for range r.IntN(levels + 1) {
		n.Kids = append(n.Kids, strange(r, levels-1))
	}
	return n
}

// P7.1: trees of all kinds, of which none is typed.
func TestStrangeTrees(t *testing.T) {
	r := rand.New(rand.NewPCG(7, 1))
	for i := range 3000 {
		checkNotTyped(t, strange(r, i%6))
	}
	deep := api.Node{Kind: api.NodeCall, Name: "f"}
	for i := range 1 << 16 {
		deep = api.Node{Kind: api.NodeCall, Name: fmt.Sprint("f", i%9), Kids: []api.Node{deep}}
	}
	if got := inline.Calls(deep); len(got) != 10 || got[9] != "f" {
		t.Errorf("%v", got)
	}
	if got, e := inline.Inline(deep); e != api.ErrForm || len(got.Kids) > 0 {
		t.Errorf("error %d", e)
	}
	if inline.Weight(deep) != 0 || len(inline.Order(deep)) > 0 {
		t.Errorf("Weight or Order")
	}
}

// checkOrder reports an Order in which a function is missing, stands twice, or comes ahead of one that it calls.
func checkOrder(t *testing.T, n api.Node) {
	t.Helper()
	got := inline.Order(n)
	place := map[string]int{}
	for i, name := range got {
		place[name] = 1 + i
	}
	count := 0
	for _, kid := range n.Kids {
		if kid.Kind != api.NodeFunction {
			continue
		}
		count++
		if place[kid.Name] == 0 {
			t.Fatalf("Order(%s) = %v", shown(n), got)
		}
		for _, name := range called(kid) {
			if place[name] >= place[kid.Name] {
				t.Fatalf("Order(%s) = %v: %s calls %s", shown(n), got, kid.Name, name)
			}
		}
	}
	if len(got) != count {
		t.Fatalf("Order(%s) = %v", shown(n), got)
	}
}

// P7.1: all graphs of calls among four functions.
func TestOrderOfAllGraphs(t *testing.T) {
	const count = 4
	orders := 0
	for graph := range 1 << (count * (count - 1)) {
		var source strings.Builder
		for i := range count {
			fmt.Fprintf(&source, "fn f%d() -> u8 { return 1", i)
			for j := range count - 1 {
				if graph>>(i*(count-1)+j)&1 == 1 {
					fmt.Fprintf(&source, " + f%d()", (i+j+1)%count)
				}
			}
			source.WriteString("; }\n")
		}
		source.WriteString("kernel k() { }")
		n, _, e := types.Check(parsed(source.String()))
		if e != api.OK {
			checkNotTyped(t, parsed(source.String()))
			continue
		}
		orders++
		checkOrder(t, n)
	}
	if orders != 543 { // the number of graphs of four nodes without a cycle
		t.Errorf("%d programs are typed", orders)
	}
}

// P7.1: long chains of calls, from the first function on and from the last one.
func TestOrderOfChains(t *testing.T) {
	const count = 3000
	var forward, backward strings.Builder
	for i := range count {
		fmt.Fprintf(&forward, "fn f%d() -> u1 { return f%d(); }\n", i, i+1)
		fmt.Fprintf(&backward, "fn f%d() -> u1 { return f%d(); }\n", count-1-i, count-i)
	}
	last := fmt.Sprintf("fn f%d() -> u1 { return 1; }\nkernel f() { }", count)
	for _, s := range []string{forward.String() + last, last + backward.String()} {
		// The sources are too long for one call of Parse: a function is a line.
		n := api.Node{Kind: api.NodeProgram}
		for line := range strings.Lines(s) {
			n.Kids = append(n.Kids, parsed(line).Kids...)
		}
		n, _, e := types.Check(n)
		if e != api.OK {
			t.Fatalf("error %d", e)
		}
		checkOrder(t, n)
	}
	checkOrder(t, mustType(functions+"kernel k() { let a = sum(bits(3)); }"))
	checkOrder(t, mustType("kernel k() { }"))
}
