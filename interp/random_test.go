package interp_test

import (
	"slices"
	"testing"

	"jacquard/api"
)

// compare reports a run that does not end as its oracle does.
func compare(t *testing.T, s sample, fuel int) *state {
	t.Helper()
	want := executed(s.program, s.env, fuel)
	if got := run(t, s.program, s.env, fuel); !sameOutcome(got, want.Outcome) {
		t.Fatalf("%s\nin %v with fuel %d: %v, not %v", s.source, s.env, fuel, got, want.Outcome)
	}
	return want
}

// P6.1: programs of all kinds of nodes, with any fuel, with just enough, and with one unit less.
func TestSamples(t *testing.T) {
	statuses, loops := map[int]int{}, 0
	for m, s := range samples(1, 6000) {
		fuel := pick(m, []int{-5, 0, 1, 5, 20, 100, 1000, 1000, 1000, 1000})
		want := compare(t, s, fuel)
		statuses[want.Status]++
		if want.used > 30 && want.Status != api.Fuel {
			loops++
		}
		if want.Status == api.Fuel {
			continue
		}
		if enough := compare(t, s, want.used); !sameOutcome(enough.Outcome, want.Outcome) {
			t.Fatalf("%s\nin %v needs more fuel than %d", s.source, s.env, want.used)
		}
		if less := compare(t, s, want.used-1); want.used > 0 && less.Status != api.Fuel {
			t.Fatalf("%s\nin %v needs less fuel than %d", s.source, s.env, want.used)
		}
	}
	for status := api.Done; status <= api.Fuel; status++ {
		if statuses[status] < 500 {
			t.Errorf("only %d runs with the status %d", statuses[status], status)
		}
	}
	if loops < 200 {
		t.Errorf("only %d long runs", loops)
	}
}

// P6.2: more fuel, and any other words in place of those that are not received.
func TestMoreFuelAndInput(t *testing.T) {
	changes := 0
	for m, s := range samples(2, 3000) {
		end := executed(s.program, s.env, 1000)
		if end.Status == api.Fuel {
			continue
		}
		for _, more := range []int{end.used + 1, end.used + 2 + m.IntN(1000), 1 << 40, int(^uint(0) >> 1)} {
			if got := run(t, s.program, s.env, more); !sameOutcome(got, end.Outcome) {
				t.Fatalf("%s\nin %v with fuel %d: %v, not %v", s.source, s.env, more, got, end.Outcome)
			}
		}
		other := copied(s.env)
		for i, p := range streamsOf(s.program) {
			if p.Kind == api.NodeOut || i == end.waiting {
				continue
			}
			other.Ins[i] = other.Ins[i][:end.received[i]]
			for range m.IntN(4) {
				other.Ins[i] = append(other.Ins[i], m.word(p.Type))
			}
			changes++
		}
		if got := run(t, s.program, other, end.used); !sameOutcome(got, end.Outcome) {
			t.Fatalf("%s\nin %v: %v, not %v as in %v", s.source, other, got, end.Outcome, s.env)
		}
	}
	if changes < 500 {
		t.Errorf("only %d streams have other words", changes)
	}
}

// P6.3: inputs that are cut off, each one at each place, and all at once.
func TestCutInputs(t *testing.T) {
	counts := map[bool]int{}
	for m, s := range samples(3, 3000) {
		fuel := pick(m, []int{10, 100, 1000})
		full := run(t, s.program, s.env, fuel)
		cut := func(env api.Env) {
			got := run(t, s.program, env, fuel)
			same := sameOutcome(got, full)
			begins := slices.EqualFunc(got.Outs, full.Outs, func(a, b []uint64) bool { return len(a) <= len(b) && slices.Equal(a, b[:len(a)]) })
			if !same && (got.Status != api.Starved || !begins || len(got.Rets) > 0) {
				t.Fatalf("%s\nin %v: %v, but %v in %v", s.source, env, got, full, s.env)
			}
			counts[same]++
		}
		all := copied(s.env)
		for i, list := range s.env.Ins {
			for length := range list {
				env := copied(s.env)
				env.Ins[i] = list[:length]
				cut(env)
			}
			all.Ins[i] = list[:m.IntN(len(list)+1)]
		}
		cut(all)
	}
	if counts[false] < 300 || counts[true] < 300 {
		t.Errorf("%d runs are the same, %d are starved", counts[true], counts[false])
	}
}
