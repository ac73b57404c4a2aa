package ir_test

import (
	"fmt"
	"math/rand/v2"
	"reflect"
	"slices"
	"strings"
	"testing"

	"jacquard/api"
	"jacquard/ir"
)

// checkValid reports a function for which Valid does not return what it has to.
func checkValid(t *testing.T, f api.Func, want bool, about any) {
	t.Helper()
	if got := ir.Valid(f); got != want {
		t.Fatalf("%v: Valid = %v for %s", about, got, shown(f))
	}
	if got := wellFormed(f); got != want {
		t.Fatalf("%v: the oracle says %v for %s", about, got, shown(f))
	}
}

// simple returns the chapter's example: a block with two parameters, an addition and a return.
func simple() api.Func {
	m := &maker{f: api.Func{Name: "simple", Rets: []int{8}}}
	p := m.block(8, 8)
	m.last().Term = ret(m.op(api.OpAdd, 8, p[0], p[1]))
	return m.f
}

// P8.1: the chapter's examples.
func TestValidExamples(t *testing.T) {
	checkValid(t, simple(), true, "the example")
	for i := range 3 {
		f := simple()
		f.Widths[i] = 9
		checkValid(t, f, false, "another width")
	}
	f := simple()
	f.Rets[0] = 9
	checkValid(t, f, false, "another width of Rets")

	f = simple()
	f.Rets = nil
	f.Blocks[0].Term = jump(edge(1))
	f.Blocks = append(f.Blocks, api.Block{Term: ret()})
	checkValid(t, f, true, "two blocks")
	f.Rets = []int{8}
	f.Blocks[1].Term = ret(2)
	checkValid(t, f, false, "a value of another block")
	f.Widths = append(f.Widths, 8)
	f.Blocks[0].Term = jump(edge(1, 2))
	f.Blocks[1].Params, f.Blocks[1].Term = []int{3}, ret(3)
	checkValid(t, f, true, "a value that is passed by an edge")
}

// P8.1, conditions 1 to 3 and 7: each field of a function that holds anything.
func TestValidFields(t *testing.T) {
	seen := map[bool]int{}
	f := every()
	for i, v := range fields(inside(&f)) {
		before := tidied(v)
		set := func(value any) {
			v.Set(reflect.ValueOf(value))
			want := wellFormed(f)
			seen[want]++
			checkValid(t, f, want, fmt.Sprint("field ", i, " is ", value))
		}
		switch v.Kind() {
		case reflect.Int:
			for _, n := range numbers(f) {
				set(n)
			}
		case reflect.Uint64:
			for _, n := range []uint64{0, 1, 2, 31, 32, 255, 256, 1 << 63} {
				set(n)
			}
		case reflect.String:
			for _, s := range append(texts(), "whole", "p", "q", "every") {
				set(s)
			}
		case reflect.Bool:
			set(true)
			set(false)
		}
		v.Set(before)
	}
	if !wellFormed(f) || seen[true] < 1000 || seen[false] < 5000 {
		t.Errorf("%v", seen)
	}
}

// P8.1, condition 1: identifiers.
func TestValidNames(t *testing.T) {
	for s, want := range map[string]bool{
		"a": true, "Z": true, "_": true, "__": true, "a1_B": true, "if": true, "u8": true, strings.Repeat("x", 64): true,
		"": false, "1": false, "1a": false, "a-b": false, " a": false, "a ": false, "a\n": false, "é": false, "a.b": false, strings.Repeat("x", 65): false, "a\x80": false,
	} {
		for i, change := range []func(f *api.Func){
			func(f *api.Func) { f.Name = s },
			func(f *api.Func) { f.Arrays[1].Name = s },
			func(f *api.Func) { f.Streams[1].Name = s },
		} {
			f := every()
			change(&f)
			checkValid(t, f, want, fmt.Sprintf("name %d is %q", i, s))
		}
	}
	// Each byte, at the beginning and behind it.
	for c := range 256 {
		f := simple()
		f.Name = string([]byte{byte(c)})
		letter := c == '_' || strings.ContainsRune("abcdefghijklmnopqrstuvwxyz", rune(c|0x20)) && c < 128 && c >= 'A'
		checkValid(t, f, letter, f.Name)
		f.Name = "a" + f.Name
		checkValid(t, f, letter || c >= '0' && c <= '9', f.Name)
	}
	f := every()
	f.Name = f.Arrays[0].Name
	checkValid(t, f, true, "the name of the function is that of an array")
	f.Arrays[2].Name = f.Arrays[0].Name
	checkValid(t, f, false, "two arrays with the same name")
	f = every()
	f.Streams[0].Name = f.Streams[1].Name
	checkValid(t, f, false, "two streams with the same name")
	f = every()
	f.Streams[1].Name = f.Arrays[3].Name
	checkValid(t, f, false, "an array and a stream with the same name")
}

// P8.1, condition 2: lists of as many elements as there may be, and of one more.
func TestValidLimits(t *testing.T) {
	name := func(i int) string { return "n" + strings.Repeat("x", i) }
	long := func(i int) string { return name(i/2) + "_"[:i%2] }
	cases := []struct {
		limit int
		build func(f *api.Func, n int)
	}{
		{65536, func(f *api.Func, n int) { f.Widths = append(f.Widths, slices.Repeat([]int{7}, n-len(f.Widths))...) }},
		{64, func(f *api.Func, n int) {
			for i := range n {
				f.Arrays = append(f.Arrays, api.Array{Name: long(i), Width: 8, Len: 1})
			}
		}},
		{64, func(f *api.Func, n int) {
			for i := range n {
				f.Streams = append(f.Streams, api.Stream{Name: long(i), Width: 8, Out: i%3 > 0})
			}
		}},
		{64, func(f *api.Func, n int) {
			f.Rets, f.Blocks[0].Term = slices.Repeat([]int{8}, n), ret(slices.Repeat([]int{0}, n)...)
		}},
		{1024, func(f *api.Func, n int) {
			f.Blocks = append(f.Blocks, slices.Repeat([]api.Block{{Term: jump(edge(1))}}, n-1)...)
		}},
		{4096, func(f *api.Func, n int) {
			b := &f.Blocks[0]
			for len(b.Insts) < n {
				b.Insts = append(b.Insts, api.Inst{Op: api.OpConst, Dest: len(f.Widths), Num: 5})
				f.Widths = append(f.Widths, 3)
			}
		}},
	}
	for i, c := range cases {
		for _, n := range []int{c.limit - 1, c.limit, c.limit + 1, c.limit * 2} {
			f := simple()
			c.build(&f, n)
			if got := ir.Valid(f); got != (n <= c.limit) || wellFormed(f) != got {
				t.Errorf("case %d: Valid = %v with %d elements", i, got, n)
			}
		}
	}
	f := simple()
	f.Blocks = nil
	checkValid(t, f, false, "no block")
	checkValid(t, api.Func{}, false, "nothing")
	checkValid(t, api.Func{Name: "f", Blocks: []api.Block{{Term: ret()}}}, true, "hardly anything")
}

// P8.1, condition 2: the limits hold for each list on its own.
func TestValidAtAllLimits(t *testing.T) {
	f := api.Func{Name: "f", Widths: slices.Repeat([]int{64}, 65536)}
	for i := range 64 {
		f.Arrays = append(f.Arrays, api.Array{Name: fmt.Sprint("a", i), Width: 64, Len: 4096})
		f.Streams = append(f.Streams, api.Stream{Name: fmt.Sprint("s", i), Width: 64, Out: true})
	}
	next := 0
	for b := range 1024 {
		block := api.Block{Term: jump(edge(1 + b%1023)), Pipeline: 256, Unroll: 64, Line: 1<<31 - 1}
		count := 48
		if b < 4 {
			count = 4096
		}
		for range count {
			block.Insts = append(block.Insts, api.Inst{Op: api.OpConst, Dest: next, Num: 1<<64 - 1})
			next++
		}
		f.Blocks = append(f.Blocks, block)
	}
	if next > 65536 || !ir.Valid(f) || !wellFormed(f) {
		t.Errorf("a function at all limits with %d values is not valid", next)
	}
}

// P8.1, condition 2: widths of each kind.
func TestValidWidths(t *testing.T) {
	for _, w := range []int{-1 << 63, -64, -1, 0, 1, 2, 63, 64, 65, 128, 1<<63 - 1} {
		want := w >= 1 && w <= 64
		for i, change := range []func(f *api.Func){
			func(f *api.Func) { f.Widths = append(f.Widths, w) },
			func(f *api.Func) { f.Arrays = []api.Array{{Name: "a", Width: w, Len: 3}} },
			func(f *api.Func) { f.Streams = []api.Stream{{Name: "a", Width: w}} },
			func(f *api.Func) { f.Streams = []api.Stream{{Name: "a", Width: w, Out: true}} },
			func(f *api.Func) { f.Rets, f.Widths = []int{w}, []int{w, w, w} },
		} {
			f := simple()
			change(&f)
			checkValid(t, f, want, fmt.Sprint("width ", i, " is ", w))
		}
	}
	f := simple()
	f.Rets = append(f.Rets, 0)
	checkValid(t, f, false, "a returned word too few")
}

// P8.1, condition 3: all kinds, and the factors and lengths around the limits.
func TestValidArrays(t *testing.T) {
	lengths := []int{-1, 0, 1, 2, 63, 64, 65, 4095, 4096, 4097, 1 << 40}
	for _, length := range lengths {
		for kind := -1; kind <= 5; kind++ {
			for _, factor := range append([]int{-64, 3, 62, 66}, lengths...) {
				f := simple()
				f.Arrays = []api.Array{{Name: "a", Width: 8, Len: length, Kind: kind, Factor: factor}}
				want := length >= 1 && length <= 4096
				switch kind {
				case 0:
					want = want && factor == 0
				case 1, 2:
					want = want && factor >= 1 && factor <= length && factor <= 64
				case 3:
					want = want && factor == 0 && length <= 64
				default:
					want = false
				}
				checkValid(t, f, want, f.Arrays)
			}
		}
	}
}

// P8.1, condition 7
func TestValidDirectives(t *testing.T) {
	for _, n := range []int{-1 << 63, -1, 0, 1, 63, 64, 65, 255, 256, 257, 1<<31 - 1, 1 << 31, 1 << 32, 1<<63 - 1} {
		f := every()
		f.Blocks[2].Pipeline = n
		checkValid(t, f, n >= 0 && n <= 256, fmt.Sprint("pipeline ", n))
		f = every()
		f.Blocks[4].Unroll = n
		checkValid(t, f, n >= 0 && n <= 64, fmt.Sprint("unroll ", n))
		f = every()
		f.Blocks[0].Line = n
		checkValid(t, f, n >= 0 && n < 1<<31, fmt.Sprint("line ", n))
	}
}

// P8.1: functions with empty lists of both kinds.
func TestValidEmptyLists(t *testing.T) {
	for _, f := range samples(1, 100) {
		emptied(inside(&f))
		checkValid(t, f, true, "empty lists")
	}
}

// emptied replaces all lists that are nil by others that are empty.
func emptied(v reflect.Value) {
	for _, list := range lists(v) {
		if list.IsNil() {
			list.Set(reflect.MakeSlice(list.Type(), 0, 3))
		}
	}
}

// P8.1: functions that are well formed, and the same ones with something changed.
func TestValidSamples(t *testing.T) {
	seen := map[bool]int{}
	for r, f := range samples(2, 3000) {
		checkValid(t, f, true, "a sample")
		for range 20 {
			g := tidy(f)
			for range 1 + r.IntN(2) {
				mutate(r, &g)
			}
			want := wellFormed(g)
			seen[want]++
			checkValid(t, g, want, "a changed sample")
		}
	}
	if seen[true] < 5000 || seen[false] < 5000 {
		t.Errorf("%v", seen)
	}
}

// P8.1: functions of which hardly one is well formed.
func TestValidNonsense(t *testing.T) {
	r := rand.New(rand.NewPCG(8, 3))
	for range 5000 {
		f := nonsense(r)
		checkValid(t, f, wellFormed(f), "nonsense")
	}
}
