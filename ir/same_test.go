package ir_test

import (
	"math"
	"reflect"
	"testing"

	"jacquard/api"
	"jacquard/ir"
)

// checkSame reports two functions for which Same does not return what it has to.
func checkSame(t *testing.T, f, g api.Func, want bool, about any) {
	t.Helper()
	if ir.Same(f, g) != want || ir.Same(g, f) != want {
		t.Fatalf("%v: Same is not %v for %s and %s", about, want, shown(f), shown(g))
	}
}

// P8.1: each field of a function that is another one.
func TestSameFields(t *testing.T) {
	f, g := every(), every()
	checkSame(t, f, g, true, "nothing")
	for i, v := range fields(inside(&g)) {
		before := tidied(v)
		switch v.Kind() {
		case reflect.Int:
			for _, n := range []int64{1, -1, 1 << 32, math.MinInt64} {
				v.SetInt(before.Int() + n)
				checkSame(t, f, g, false, i)
			}
		case reflect.Uint64:
			v.SetUint(before.Uint() ^ 1<<63)
			checkSame(t, f, g, false, i)
		case reflect.String:
			for _, s := range []string{"", "a", before.String() + "a"} {
				v.SetString(s)
				checkSame(t, f, g, false, i)
			}
		case reflect.Bool:
			v.SetBool(!before.Bool())
			checkSame(t, f, g, false, i)
		default:
			t.Fatalf("a field of the kind %v", v.Kind())
		}
		v.Set(before)
	}
	checkSame(t, f, g, true, "nothing again")
}

// P8.1: each list of a function that has an element less, one more, or its elements in another order.
func TestSameLists(t *testing.T) {
	f, g := every(), every()
	for i, v := range lists(inside(&g)) {
		before := v.Interface()
		n := v.Len()
		v.Set(reflect.Append(v, reflect.Zero(v.Type().Elem())))
		checkSame(t, f, g, false, i)
		v.Set(reflect.ValueOf(before))
		if n == 0 {
			continue
		}
		v.Set(v.Slice(0, n-1))
		checkSame(t, f, g, false, i)
		v.Set(reflect.ValueOf(before).Slice(1, n))
		checkSame(t, f, g, false, i)
		v.Set(reflect.Zero(v.Type()))
		checkSame(t, f, g, false, i)
		v.Set(reflect.ValueOf(before))
		a, b := reflect.New(v.Type().Elem()).Elem(), reflect.New(v.Type().Elem()).Elem()
		a.Set(v.Index(0))
		b.Set(v.Index(n - 1))
		if !reflect.DeepEqual(a.Interface(), b.Interface()) {
			v.Index(0).Set(b)
			v.Index(n - 1).Set(a)
			checkSame(t, f, g, false, i)
			v.Index(0).Set(a)
			v.Index(n - 1).Set(b)
		}
	}
	checkSame(t, f, g, true, "nothing again")
}

// P8.1: lists that are empty and lists that are nil.
func TestSameEmptyLists(t *testing.T) {
	for _, f := range samples(4, 50) {
		g := tidy(f)
		for i, v := range lists(inside(&g)) {
			if v.Len() > 0 {
				continue
			}
			for _, empty := range []reflect.Value{reflect.Zero(v.Type()), reflect.MakeSlice(v.Type(), 0, 0), reflect.MakeSlice(v.Type(), 2, 2).Slice(0, 0)} {
				v.Set(empty)
				checkSame(t, f, g, true, i)
			}
		}
		emptied(inside(&g))
		checkSame(t, f, g, true, "all lists")
	}
	empty := api.Func{Widths: []int{}, Arrays: []api.Array{}, Streams: []api.Stream{}, Rets: []int{}, Blocks: []api.Block{}}
	checkSame(t, api.Func{}, empty, true, "nothing at all")
	checkSame(t, api.Func{Blocks: []api.Block{{}}}, empty, false, "an empty block")
}

// P8.1: any two functions, well formed or not.
func TestSameSamples(t *testing.T) {
	for r, f := range samples(5, 300) {
		for _, g := range []api.Func{nonsense(r), random(r), tidy(f), shuffled(r, f)} {
			checkSame(t, f, g, equal(f, g), "samples")
			checkSame(t, g, tidy(g), true, "a copy")
			h := tidy(g)
			mutate(r, &h)
			checkSame(t, g, h, equal(g, h), "a changed copy")
		}
	}
}
