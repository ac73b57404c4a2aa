package bits_test

import (
	"math"
	"testing"

	"jacquard/api"
	"jacquard/bits"
)

// binaries returns the binary operators, written out so that the tests do not rely on IsBinary.
func binaries() []int {
	return []int{
		api.OpAdd, api.OpSub, api.OpMul, api.OpUDiv, api.OpURem, api.OpSDiv, api.OpSRem, api.OpAnd, api.OpOr, api.OpXor,
		api.OpShl, api.OpLShr, api.OpAShr, api.OpEq, api.OpNe, api.OpULt, api.OpULe, api.OpSLt, api.OpSLe,
	}
}

func others() []int {
	return []int{
		math.MinInt, -api.OpAdd, -1, 0, api.OpConst, api.OpSelect, api.OpZExt, api.OpSExt, api.OpTrunc,
		api.OpLoad, api.OpStore, api.OpRecv, api.OpSend, api.OpSend + 1, api.OpAdd + 256, math.MaxInt,
	}
}

func badWidths() []int { return []int{math.MinInt, -1, 0, 65, 128, math.MaxInt} }

// binary calls Binary with valid arguments.
func binary(t *testing.T, op, w int, a, b uint64) uint64 {
	t.Helper()
	x, e := bits.Binary(op, w, a, b)
	if e != api.OK {
		t.Fatalf("Binary(%s, %d, %d, %d): error %d", bits.Name(op), w, a, b, e)
	}
	return x
}

// pairs visits all pairs of words of small widths, and pairs of corners, made to fit, of all widths.
func pairs(visit func(w int, a, b uint64)) {
	for w := 1; w <= 5; w++ {
		for a := range uint64(1) << w {
			for b := range uint64(1) << w {
				visit(w, a, b)
			}
		}
	}
	for w := 6; w <= api.MaxWidth; w++ {
		for _, a := range corners(w) {
			for _, b := range corners(w) {
				visit(w, low(w, unsigned(a)), low(w, unsigned(b)))
			}
		}
	}
}

// P1.1
func TestBinaryResults(t *testing.T) {
	pairs(func(w int, a, b uint64) {
		for _, op := range binaries() {
			if got, want := binary(t, op, w, a, b), expected(op, w, a, b); got != want {
				t.Fatalf("Binary(%s, %d, %d, %d) = %d, not %d", bits.Name(op), w, a, b, got, want)
			}
		}
	})
}

// P1.1: the edge cases that the table and the examples name, as plain numbers.
func TestBinaryEdges(t *testing.T) {
	const least, minus = uint64(1) << 63, uint64(math.MaxUint64)
	for _, c := range []struct {
		op, w      int
		a, b, want uint64
	}{
		{api.OpAdd, 4, 9, 8, 1}, {api.OpAdd, 64, minus, 2, 1}, {api.OpSub, 64, 0, 1, minus}, {api.OpMul, 64, least, 3, least},
		{api.OpUDiv, 4, 5, 0, 15}, {api.OpURem, 4, 5, 0, 5}, {api.OpUDiv, 64, 0, 0, minus}, {api.OpURem, 64, minus, 0, minus},
		{api.OpSDiv, 4, 9, 2, 13}, {api.OpSRem, 4, 9, 2, 15}, {api.OpSDiv, 4, 7, 14, 13}, {api.OpSRem, 4, 7, 14, 1},
		{api.OpSDiv, 4, 8, 0, 15}, {api.OpSRem, 4, 8, 0, 8}, {api.OpSDiv, 64, 7, 0, minus}, {api.OpSRem, 64, least, 0, least},
		{api.OpSDiv, 4, 8, 15, 8}, {api.OpSRem, 4, 8, 15, 0}, {api.OpSDiv, 1, 1, 1, 1}, {api.OpSRem, 1, 1, 1, 0},
		{api.OpSDiv, 64, least, minus, least}, {api.OpSRem, 64, least, minus, 0},
		{api.OpShl, 4, 3, 3, 8}, {api.OpShl, 4, 3, 4, 0}, {api.OpShl, 64, 3, 63, least}, {api.OpShl, 64, 3, 64, 0}, {api.OpShl, 64, 3, minus, 0},
		{api.OpLShr, 4, 12, 3, 1}, {api.OpLShr, 4, 12, 4, 0}, {api.OpLShr, 64, least, 63, 1}, {api.OpLShr, 64, minus, 64, 0}, {api.OpLShr, 64, minus, minus, 0},
		{api.OpAShr, 4, 8, 9, 15}, {api.OpAShr, 4, 7, 9, 0}, {api.OpAShr, 4, 9, 1, 12}, {api.OpAShr, 64, least, 63, minus}, {api.OpAShr, 64, least, minus, minus}, {api.OpAShr, 64, least - 1, 64, 0},
		{api.OpULt, 4, 8, 8, 0}, {api.OpULe, 4, 8, 8, 1}, {api.OpSLt, 4, 8, 7, 1}, {api.OpSLe, 4, 7, 8, 0}, {api.OpSLt, 1, 1, 0, 1}, {api.OpSLt, 64, least, 0, 1}, {api.OpULt, 64, least, 0, 0},
	} {
		if got := binary(t, c.op, c.w, c.a, c.b); got != c.want {
			t.Errorf("Binary(%s, %d, %d, %d) = %d, not %d", bits.Name(c.op), c.w, c.a, c.b, got, c.want)
		}
	}
}

// P1.1: bits above a word do not count, not even in the amounts of shifts.
func TestBinaryFitsItsArguments(t *testing.T) {
	for w := 1; w <= api.MaxWidth; w++ {
		for _, a := range corners(w) {
			for _, b := range corners(w) {
				for _, op := range binaries() {
					want := expected(op, w, low(w, unsigned(a)), low(w, unsigned(b)))
					if got := binary(t, op, w, a, b); got != want {
						t.Fatalf("Binary(%s, %d, %d, %d) = %d, not %d", bits.Name(op), w, a, b, got, want)
					}
				}
			}
		}
	}
}

// P1.1
func TestBinaryRejects(t *testing.T) {
	reject := func(op, w int) {
		for _, b := range []uint64{0, 1, math.MaxUint64} {
			if x, e := bits.Binary(op, w, math.MaxUint64, b); x != 0 || e != api.ErrArg {
				t.Errorf("Binary(%d, %d) = %d, %d, not 0 and ErrArg", op, w, x, e)
			}
		}
	}
	for _, op := range others() {
		for _, w := range append(badWidths(), 1, 4, 64) {
			reject(op, w)
		}
	}
	for _, op := range binaries() {
		for _, w := range badWidths() {
			reject(op, w)
		}
	}
}

// P1.1
func TestKindsOfOperators(t *testing.T) {
	compare := map[int]bool{api.OpEq: true, api.OpNe: true, api.OpULt: true, api.OpULe: true, api.OpSLt: true, api.OpSLe: true}
	associate := map[int]bool{api.OpAdd: true, api.OpMul: true, api.OpAnd: true, api.OpOr: true, api.OpXor: true}
	check := func(op int, binary bool) {
		commute := associate[op] || op == api.OpEq || op == api.OpNe
		if bits.IsBinary(op) != binary || bits.IsCompare(op) != compare[op] || bits.Commutes(op) != commute || bits.Associates(op) != associate[op] {
			t.Errorf("operator %d: %v, %v, %v, %v", op, bits.IsBinary(op), bits.IsCompare(op), bits.Commutes(op), bits.Associates(op))
		}
	}
	for _, op := range binaries() {
		check(op, true)
	}
	for _, op := range others() {
		check(op, false)
	}
}

// P1.2
func TestQuotientAndRemainder(t *testing.T) {
	pairs(func(w int, a, b uint64) {
		for _, ops := range [][2]int{{api.OpUDiv, api.OpURem}, {api.OpSDiv, api.OpSRem}} {
			quotient, remainder := binary(t, ops[0], w, a, b), binary(t, ops[1], w, a, b)
			if got := binary(t, api.OpAdd, w, binary(t, api.OpMul, w, quotient, b), remainder); got != a {
				t.Fatalf("%s of %d bits: %d * %d + %d = %d, not %d", bits.Name(ops[0]), w, quotient, b, remainder, got, a)
			}
		}
	})
}

// P1.3
func TestCommutes(t *testing.T) {
	pairs(func(w int, a, b uint64) {
		for _, op := range binaries() {
			if bits.Commutes(op) && binary(t, op, w, a, b) != binary(t, op, w, b, a) {
				t.Fatalf("%s of %d bits does not commute for %d, %d", bits.Name(op), w, a, b)
			}
		}
	})
}

// P1.3
func TestAssociates(t *testing.T) {
	pairs(func(w int, a, b uint64) {
		for _, op := range binaries() {
			if !bits.Associates(op) {
				continue
			}
			for _, c := range []uint64{0, 1, 3, a, ^b, bits.Mask(w)} {
				left := binary(t, op, w, binary(t, op, w, a, b), c)
				right := binary(t, op, w, a, binary(t, op, w, b, c))
				if left != right {
					t.Fatalf("%s of %d bits does not associate for %d, %d, %d", bits.Name(op), w, a, b, c)
				}
			}
		}
	})
}

// P1.3
func TestIdentities(t *testing.T) {
	pairs(func(w int, a, _ uint64) {
		for _, op := range binaries() {
			e, ok := bits.Identity(op, w)
			if ok && (e != bits.Fit(w, e) || binary(t, op, w, a, e) != a) {
				t.Fatalf("%s of %d bits: %d is no identity for %d", bits.Name(op), w, e, a)
			}
		}
	})
}

// P1.1: which operators have an identity, and which one.
func TestIdentityOfEachOperator(t *testing.T) {
	named := map[int]func(w int) uint64{
		api.OpAnd: func(w int) uint64 { return expected(api.OpSub, w, 0, 1) },
	}
	for _, op := range []int{api.OpAdd, api.OpSub, api.OpOr, api.OpXor, api.OpShl, api.OpLShr, api.OpAShr} {
		named[op] = func(int) uint64 { return 0 }
	}
	for _, op := range []int{api.OpMul, api.OpUDiv, api.OpSDiv} {
		named[op] = func(int) uint64 { return 1 }
	}
	for _, op := range append(binaries(), others()...) {
		for w := 1; w <= api.MaxWidth; w++ {
			e, ok := bits.Identity(op, w)
			want, has := named[op]
			if ok != has || has && e != want(w) || !has && e != 0 {
				t.Errorf("Identity(%d, %d) = %d, %v", op, w, e, ok)
			}
		}
		for _, w := range badWidths() {
			if e, ok := bits.Identity(op, w); e != 0 || ok {
				t.Errorf("Identity(%d, %d) = %d, %v, not 0 and false", op, w, e, ok)
			}
		}
	}
}
