package ir_test

import (
	"math/rand/v2"
	"reflect"
	"testing"

	"jacquard/api"
	"jacquard/ir"
)

// checkClone reports a function whose clone is not equal, or not new.
func checkClone(t *testing.T, f api.Func) {
	t.Helper()
	f = roomy(f)
	before := whole(f)
	g := ir.Clone(f)
	if !equal(f, g) || !ir.Same(f, g) {
		t.Fatalf("Clone of %s is %s", shown(f), shown(g))
	}
	checkNew(t, g, f)
	spoil(inside(&g))
	if !reflect.DeepEqual(whole(f), before) {
		t.Fatalf("%s has become %s with its clone", shown(before), shown(f))
	}
	g = ir.Clone(f)
	old := tidy(f)
	spoil(inside(&f))
	if !equal(g, old) {
		t.Fatalf("the clone of %s has become %s with the function", shown(old), shown(g))
	}
}

// P8.1: functions that are well formed, and others.
func TestClone(t *testing.T) {
	checkClone(t, api.Func{})
	checkClone(t, api.Func{Blocks: []api.Block{{}, {Insts: []api.Inst{{}}, Term: api.Term{To: []api.Edge{{}}}}}})
	for r, f := range samples(6, 300) {
		checkClone(t, f)
		checkClone(t, nonsense(r))
	}
}

// P8.1: what is appended to a clone is not in the original, nor in another list of the clone.
func TestCloneGrows(t *testing.T) {
	f := roomy(every())
	g := ir.Clone(f)
	for i, v := range lists(inside(&g)) {
		element := reflect.New(v.Type().Elem()).Elem()
		stuff(element)
		v.Set(reflect.Append(v, element))
		v.Set(v.Slice(0, v.Len()-1))
		if !equal(f, every()) || !equal(g, every()) {
			t.Fatalf("list %d of the clone shares memory", i)
		}
	}
}

// P8.1: changes of a clone leave the original as it is, and the other way round.
func TestCloneAndChange(t *testing.T) {
	r := rand.New(rand.NewPCG(8, 7))
	for range 300 {
		f := random(r)
		old := tidy(f)
		g := ir.Clone(f)
		for range 20 {
			mutate(r, &g)
		}
		if !equal(f, old) {
			t.Fatalf("%s has become %s", shown(old), shown(f))
		}
		g = ir.Clone(f)
		for range 20 {
			mutate(r, &f)
		}
		if !equal(g, old) {
			t.Fatalf("the clone of %s has become %s", shown(old), shown(g))
		}
	}
}
