package interp_test

import (
	"testing"

	"jacquard/api"
	"jacquard/interp"
)

// costs are statements with the fuel that is just enough for them.
var costs = []struct {
	s    string
	cost int
}{
	{"", 0}, {"var v: u8;", 1}, {"var v: u8 = x; let w = v; v = w; a[v] = 1; a[0] = 1; send o(1);", 6}, {"let v = (x + 1 == 2 || a[0] < x) && b ? x : 1;", 1},
	// Branches: one unit for each If that is reached, and nothing for blocks.
	{"if b { }", 1}, {"if !b { send o(1); }", 1}, {"if b { send o(1); send o(2); }", 3}, {"if b { } else { send o(1); }", 1}, {"if !b { } else { send o(1); }", 2}, {"if !b { } else { }", 1},
	{"if !b { } else if b { }", 2}, {"if !b { } else if !b { } else { send o(1); }", 3}, {"if !b { } else if !b { } else if b { send o(1); send o(2); }", 5}, {"if b { if b { if b { } } }", 3},
	// Loops: one unit for the statement, and one for each condition or comparison, with the last one.
	{"while !b { send o(1); }", 2}, {"var v: u8 = 3; while v > 0 { v = v - 1; }", 9}, {"var v: u8 = 3; while v > 0 { v = v - 1; send o(v); }", 12}, {"while recv(r) == false { }", 3}, {"var v: u8 = 2; while v > 0 { v = v - 1; while false { } }", 11},
	{"for i: u8 in 0 .. 0 { send o(1); }", 2}, {"for i: u8 in 7 .. 3 { send o(1); }", 2}, {"for i: u8 in 0 .. 3 { }", 5}, {"for i: u8 in 0 .. 3 { send o(i); }", 8}, {"for i: s8 in -2 .. 2 { send o(1); a[0] = 1; }", 14}, {"for i: u8 in 0 .. 2 { for j: u8 in 0 .. i { send o(j); } }", 10},
	{"# unroll # pipeline for i: u8 in 0 .. 3 { }", 5}, {"for i: u8 in 0 .. 255 { }", 257}, {"for i: s1 in -1 .. 0 { }", 3},
	// Calls: the statements of the function.
	{"let v = zero();", 2}, {"let v = same(same(same(1)));", 4}, {"let v = twice(x);", 4}, {"send o(minus(same(1), twice(zero())));", 7}, {"let v = sum(0);", 5}, {"let v = sum(3);", 11}, {"for i: u8 in zero() .. same(1) { let v = zero(); }", 7}, {"while same(recv(q)) > 1 { a[0] = same(1); }", 7}, {"if same(1) == 1 { let v = zero(); }", 4}, {"a[same(0)] = same(1);", 3},
	{"let v = false && zero() == 1;", 2}, {"let v = true || zero() == 1;", 2}, {"let v = b ? zero() : same(1);", 3}, {"let v = a[sum(1) + 20] + zero();", 8},
	// Runs that are starved.
	{"while true { let v = recv(r); }", 11}, {"let v = recv(r) && recv(r) && recv(r) && recv(r) && recv(r);", 1}, {"for i: u8 in 0 .. 9 { send o(same(recv(q))); }", 18}, {"while recv(r) || true { }", 6}, {"if recv(q) + recv(q) + recv(q) + recv(q) + recv(q) + recv(q) == 0 { }", 1},
	{"for i: u8 in zero() .. recv(q) { let v = minus(recv(q), recv(q)); }", 10},
}

// P6.1: fuel that is just enough, one unit less, and less than that; P6.2: and more.
func TestCosts(t *testing.T) {
	for _, c := range costs {
		enough := inKernel(t, c.s, c.cost)
		if enough.Status == api.Fuel {
			t.Errorf("%s: %d units are not enough", c.s, c.cost)
		}
		for fuel := range c.cost {
			if out := inKernel(t, c.s, fuel); out.Status != api.Fuel || len(out.Rets) > 0 {
				t.Errorf("%s: %d units lead to %v", c.s, fuel, out)
			}
		}
		for _, fuel := range []int{c.cost + 1, 2*c.cost + 5, plenty, 1<<63 - 1} {
			if out := inKernel(t, c.s, fuel); !sameOutcome(out, enough) {
				t.Errorf("%s: %d units lead to %v, not %v", c.s, fuel, out, enough)
			}
		}
	}
}

// P6.1: where a run is when its fuel ends.
func TestFuelEnds(t *testing.T) {
	for _, c := range []struct {
		s      string
		fuel   int
		status int
		first  uint64 // the first element of the array a
		sent   []uint64
	}{
		{"", 0, api.Done, 10, nil}, {"", -1, api.Done, 10, nil}, {"", -1 << 63, api.Done, 10, nil}, {"send o(1);", -1, api.Fuel, 10, nil}, {"send o(1);", -1 << 63, api.Fuel, 10, nil},
		{"send o(1); a[0] = 2; send o(3);", 0, api.Fuel, 10, nil}, {"send o(1); a[0] = 2; send o(3);", 1, api.Fuel, 10, []uint64{1}}, {"send o(1); a[0] = 2; send o(3);", 2, api.Fuel, 2, []uint64{1}}, {"send o(1); a[0] = 2; send o(3);", 3, api.Done, 2, []uint64{1, 3}},
		// A statement's unit is due ahead of its expressions, those of a function behind the arguments.
		{"while true { send o(recv(q)); }", 10, api.Fuel, 10, []uint64{3, 1, 2, 200}}, {"while true { send o(recv(q)); }", 11, api.Fuel, 10, []uint64{3, 1, 2, 200, 5}}, {"while true { send o(recv(q)); }", 12, api.Fuel, 10, []uint64{3, 1, 2, 200, 5}}, {"while true { send o(recv(q)); }", 13, api.Starved, 10, []uint64{3, 1, 2, 200, 5}},
		{"while true { let v = same(recv(q)); send o(v); }", 17, api.Fuel, 10, []uint64{3, 1, 2, 200}}, {"while true { let v = same(recv(q)); send o(v); }", 22, api.Fuel, 10, []uint64{3, 1, 2, 200, 5}}, {"while true { let v = same(recv(q)); send o(v); }", 23, api.Starved, 10, []uint64{3, 1, 2, 200, 5}},
		{"let v = sum(200); send o(v);", 100, api.Fuel, 10, nil}, {"let v = minus(zero(), recv(q) + recv(q) + recv(q) + recv(q) + recv(q) + recv(q));", 1, api.Fuel, 10, nil}, {"let v = minus(zero(), recv(q) + recv(q) + recv(q) + recv(q) + recv(q) + recv(q));", 2, api.Starved, 10, nil},
		{"let v = minus(recv(q) + recv(q) + recv(q) + recv(q) + recv(q) + recv(q), zero());", 1, api.Starved, 10, nil},
		// The unit of a condition is due ahead of it, that of a comparison behind the bounds.
		{"for i: u8 in 0 .. 5 { let v = recv(q); } while recv(q) == 0 { }", 12, api.Fuel, 10, nil}, {"for i: u8 in 0 .. 5 { let v = recv(q); } while recv(q) == 0 { }", 13, api.Fuel, 10, nil}, {"for i: u8 in 0 .. 5 { let v = recv(q); } while recv(q) == 0 { }", 14, api.Starved, 10, nil},
		{"for i: u8 in 0 .. 5 { let v = recv(q); } for i: u8 in 0 .. recv(q) { }", 12, api.Fuel, 10, nil}, {"for i: u8 in 0 .. 5 { let v = recv(q); } for i: u8 in 0 .. recv(q) { }", 13, api.Starved, 10, nil},
		{"for i: u8 in 0 .. 5 { let v = recv(q); } for i: u8 in 1 .. 0 { } let v = recv(q);", 13, api.Fuel, 10, nil}, {"for i: u8 in 0 .. 5 { let v = recv(q); } for i: u8 in 1 .. 0 { } let v = recv(q);", 14, api.Fuel, 10, nil}, {"for i: u8 in 0 .. 5 { let v = recv(q); } for i: u8 in 1 .. 0 { } let v = recv(q);", 15, api.Starved, 10, nil},
		{"while true { a[0] = a[0] + 1; }", 7, api.Fuel, 13, nil}, {"for i: u8 in 0 .. 9 { a[0] = i; send o(i); }", 9, api.Fuel, 2, []uint64{0, 1}},
	} {
		got := inKernel(t, c.s, c.fuel)
		want := ended(c.status, []uint64{c.first, 20, 30, 40}, arrayD, c.sent...)
		if !sameOutcome(got, want) {
			t.Errorf("%s with fuel %d: %v, not %v", c.s, c.fuel, got, want)
		}
	}
}

// P6.1: a Return costs a unit, and there is no word without it.
func TestFuelOfReturn(t *testing.T) {
	n := mustType("kernel k(x: u8) -> u8 { let v = x; return v; }")
	for fuel, want := range []api.Outcome{{Status: api.Fuel}, {Status: api.Fuel}, {Status: api.Done, Rets: []uint64{9}}, {Status: api.Done, Rets: []uint64{9}}} {
		if got, e := interp.Run(n, api.Env{Scalars: []uint64{9}}, fuel); e != api.OK || !sameOutcome(got, want) {
			t.Errorf("fuel %d: %v, %d", fuel, got, e)
		}
	}
}

// P6.1: runs that never end but for their fuel, with as much as later layers give them.
func TestEndless(t *testing.T) {
	for _, s := range []string{"while true { }", "for i: u64 in 0 .. -1 { }", "var v: u8; while v <= 255 { v = v + 1; }", "while zero() == 0 { }", "for i: s64 in -9223372036854775808 .. 9223372036854775807 { a[i as u64] = i as u8; }"} {
		if out := inKernel(t, s, api.MaxFuel); out.Status != api.Fuel {
			t.Errorf("%s: %v", s, out)
		}
	}
}
