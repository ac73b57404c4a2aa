package inline_test

import (
	"testing"

	"jacquard/api"
	"jacquard/inline"
	"jacquard/parser"
)

// places counts the calls of a kernel by the kinds of the statements that they stand in, and those beside a receive.
func places(kernel api.Node, counts map[int]int) {
	for _, kid := range kernel.Kids {
		if kid.Kind < api.NodeNumber {
			places(kid, counts)
			continue
		}
		if list := calls(kid); len(list) > 0 {
			counts[kernel.Kind]++
			each(kid, func(n api.Node) {
				if n.Kind == api.NodeRecv {
					counts[api.NodeRecv]++
				}
			})
		}
	}
}

// P7.1 and P7.2: programs at random, in environments with inputs that are cut off.
func TestSamples(t *testing.T) {
	statuses, counts, errors := map[int]int{}, map[int]int{}, map[api.Errno]int{}
	for m, source := range samples(1, 1500) {
		n := mustType(source)
		if got, want := inline.Weight(n), weighed(n); got != want {
			t.Fatalf("%s: the weight %d, not %d", source, got, want)
		}
		checkOrder(t, n)
		got, e := inline.Inline(n)
		if errors[e]++; e != api.OK {
			if checkLimit(t, n); isSmall(n) {
				t.Fatalf("%s: error %d", source, e)
			}
			continue
		}
		checkResult(t, n, got)
		_, kernel := kernelOf(n)
		places(kernel, counts)
		env := m.environment()
		runs := 8
		if parser.Count(got) > 1000 { // each of these takes its time
			runs = 1
		}
		for range runs {
			statuses[compare(t, n, got, env, 2000)]++
			i := 2 * m.IntN(len(kinds)) // one of the inputs
			env.Ins[i] = env.Ins[i][:m.IntN(len(env.Ins[i])+1)]
		}
	}
	for kind := api.NodeVar; kind <= api.NodeRecv; kind++ {
		if isPlace := kind <= api.NodeReturn || kind == api.NodeRecv; isPlace && counts[kind] < 100 {
			t.Errorf("only %d calls in nodes of the kind %d", counts[kind], kind)
		}
	}
	if statuses[api.Done] < 2000 || statuses[api.Starved] < 3000 || errors[api.ErrLimit] > 100 {
		t.Errorf("%v, %v", statuses, errors)
	}
}

// P7.2: the result of Inline is inlined once more without a change, and so is the program that is written as a source, whatever its lines are.
func TestAgain(t *testing.T) {
	for _, source := range samples(2, 300) {
		n := mustType(source)
		got, e := inline.Inline(n)
		if e != api.OK {
			continue
		}
		if again := inlined(t, got); !parser.Same(again, got) {
			t.Fatalf("%s became %s", shown(got), shown(again))
		}
		text, e := parser.Format(got)
		if e == api.OK && !parser.Same(inlined(t, mustType(text)), got) {
			t.Fatalf("%s is another program than its source", shown(got))
		}
	}
}
