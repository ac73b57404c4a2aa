package interp_test

import (
	"fmt"
	"reflect"
	"strings"
	"testing"

	"jacquard/api"
	"jacquard/interp"
)

// roomy returns a copy of a list with spare capacity, in which there are other words.
func roomy(list []uint64) []uint64 {
	return append(append(make([]uint64, 0, len(list)+3), list...), 77, 78, 79)[:len(list)]
}

func roomyLists(given [][]uint64) [][]uint64 {
	all := make([][]uint64, 0, len(given)+2)
	for _, list := range given {
		all = append(all, roomy(list))
	}
	return append(all, []uint64{1}, []uint64{2})[:len(given)]
}

// whole returns a copy of an environment with the spare capacity of its lists.
func whole(env api.Env) api.Env {
	open := func(given [][]uint64) [][]uint64 {
		all := lists(given[:cap(given)])
		for i, list := range given {
			all[i] = append([]uint64(nil), list[:cap(list)]...)
		}
		return all
	}
	return api.Env{Scalars: append([]uint64(nil), env.Scalars[:cap(env.Scalars)]...), Arrays: open(env.Arrays), Ins: open(env.Ins)}
}

// deep returns a copy of a tree.
func deep(n api.Node) api.Node {
	kids := n.Kids
	n.Kids = nil
	for _, kid := range kids {
		n.Kids = append(n.Kids, deep(kid))
	}
	return n
}

// spoil overwrites lists with their spare capacity.
func spoil(given ...[]uint64) {
	for _, list := range given {
		list = list[:cap(list)]
		for i := range list {
			list[i] = 123456789
		}
	}
}

// R2 and R3 for P6.1: arguments stay as they are, results share no memory with them, and calls leave nothing behind.
func TestArgumentsStay(t *testing.T) {
	for m, s := range samples(5, 1000) {
		fuel := pick(m, []int{0, 10, 1000})
		env := api.Env{Scalars: roomy(s.env.Scalars), Arrays: roomyLists(s.env.Arrays), Ins: roomyLists(s.env.Ins)}
		before, program := whole(env), deep(s.program)
		want := plain(run(t, s.program, s.env, fuel))
		got := run(t, s.program, env, fuel)
		zero := interp.Zero(s.program)
		if !sameOutcome(got, want) || !reflect.DeepEqual(whole(env), before) || !reflect.DeepEqual(deep(s.program), program) {
			t.Fatalf("%s\nin %v with fuel %d: %v, not %v", s.source, env, fuel, got, want)
		}
		for _, all := range [][][]uint64{{got.Rets, zero.Scalars}, got.Arrays, got.Outs, zero.Arrays, zero.Ins} {
			spoil(all...)
		}
		if !reflect.DeepEqual(whole(env), before) || !sameOutcome(run(t, s.program, env, fuel), want) || interp.Fits(s.program, interp.Zero(s.program)) != api.OK {
			t.Fatalf("%s\nin %v with fuel %d: a result shares memory", s.source, env, fuel)
		}
	}
}

// R3 for P6.1: no two lists of a result share memory, also if two of an argument do.
func TestResultsAreNew(t *testing.T) {
	n := mustType("kernel k(a: u8[2], b: u8[2], q: in u8, r: in u8, o: out u8, p: out u8) -> u8 { send o(1); send p(2); a[0] = 3; b[1] = 4; send o(recv(q)); send p(recv(r)); return 5; }")
	array := []uint64{1, 2}
	env := api.Env{Arrays: [][]uint64{array, array}, Ins: [][]uint64{array, array, nil, nil}}
	out := run(t, n, env, plenty)
	want := api.Outcome{Status: api.Done, Rets: []uint64{5}, Arrays: [][]uint64{{3, 2}, {1, 4}}, Outs: [][]uint64{nil, nil, {1, 1}, {2, 1}}}
	if !sameOutcome(out, want) {
		t.Fatalf("%v, not %v", out, want)
	}
	all := append(append([][]uint64{out.Rets}, out.Arrays...), out.Outs...)
	zero := interp.Zero(n)
	all = append(append(append(all, zero.Scalars), zero.Arrays...), zero.Ins...)
	for i, list := range all {
		before := lists(append(append([][]uint64{}, all[:i]...), all[i+1:]...))
		spoil(list)
		if after := lists(append(append([][]uint64{}, all[:i]...), all[i+1:]...)); !reflect.DeepEqual(after, before) {
			t.Errorf("list %d shares memory", i)
		}
	}
}

// R1 for P6.1: long chains of calls, deep expressions, many parameters and long arrays.
func TestLargePrograms(t *testing.T) {
	const size = 4900
	u8 := api.Type{Width: 8}
	unit := func(kind int, name string, value api.Node) api.Node {
		block := api.Node{Kind: api.NodeBlock, Kids: []api.Node{{Kind: api.NodeReturn, Kids: []api.Node{value}}}}
		return api.Node{Kind: kind, Name: name, Type: u8, Kids: []api.Node{block}}
	}
	call := func(i int) api.Node { return api.Node{Kind: api.NodeCall, Name: fmt.Sprint("f", i), Type: u8} }
	chain := api.Node{Kind: api.NodeProgram, Kids: []api.Node{unit(api.NodeKernel, "k", call(1))}}
	for i := 1; i < size; i++ {
		chain.Kids = append(chain.Kids, unit(api.NodeFunction, call(i).Name, call(i+1)))
	}
	chain.Kids = append(chain.Kids, unit(api.NodeFunction, call(size).Name, api.Node{Kind: api.NodeNumber, Num: 7, Type: u8}))
	if got := run(t, chain, api.Env{}, size+1); got.Status != api.Done || got.Rets[0] != 7 {
		t.Errorf("%v", got)
	}
	if got := run(t, chain, api.Env{}, size); got.Status != api.Fuel {
		t.Errorf("%v", got)
	}
	deepest := strings.Repeat("-", 150) + "x"
	if got := returned(t, mustType("kernel k(x: u8) -> u8 { return "+deepest+"; }"), 5); got != 5 {
		t.Errorf("%d", got)
	}
	var doubling strings.Builder
	for i := range 60 {
		fmt.Fprintf(&doubling, "fn f%d(x: u8) -> u8 { return f%d(f%d(x)); }\n", i, i+1, i+1)
	}
	doubling.WriteString("fn f60(x: u8) -> u8 { return x + 1; }\nkernel k() -> u8 { return f0(0); }")
	if got := run(t, mustType(doubling.String()), api.Env{}, plenty); got.Status != api.Fuel {
		t.Errorf("%v", got)
	}
}

// P6.1: as many arrays and streams as there may be, and arrays of the greatest length.
func TestManyParameters(t *testing.T) {
	var params, body []string
	var env api.Env
	want := api.Outcome{Status: api.Done}
	for i := range api.MaxMems {
		params = append(params, fmt.Sprintf("a%d: u64[%d], x%d: u16, q%d: %s u64", i, api.MaxLen-i, i, i, []string{"in", "out"}[i%2]))
		env.Scalars = append(env.Scalars, uint64(i*i))
		env.Arrays = append(env.Arrays, make([]uint64, api.MaxLen-i))
		want.Arrays = append(want.Arrays, make([]uint64, api.MaxLen-i))
		want.Outs = append(want.Outs, nil)
		body = append(body, fmt.Sprintf("a%d[%d] = x%d as u64; a%d[%d] = 1;", i, api.MaxLen-i-1, i, i, api.MaxLen-i))
		want.Arrays[i][api.MaxLen-i-1] = uint64(i * i)
		env.Ins = append(env.Ins, nil)
		if i%2 == 1 {
			env.Ins[i-1] = []uint64{uint64(i), 1000}
			body = append(body, fmt.Sprintf("send q%d(recv(q%d) + 1);", i, i-1))
			want.Outs[i] = []uint64{uint64(i) + 1}
		}
	}
	n := mustType("kernel k(" + strings.Join(params, ", ") + ") { " + strings.Join(body, "\n") + " }")
	if got := run(t, n, env, plenty); !sameOutcome(got, want) {
		t.Errorf("%.2000v", got)
	}
	if zero := interp.Zero(n); interp.Fits(n, zero) != api.OK || len(zero.Arrays) != api.MaxMems || len(zero.Arrays[0]) != api.MaxLen {
		t.Errorf("Zero is not right")
	}
}
