package interp_test

import (
	"fmt"
	"math/rand/v2"
	"testing"

	"jacquard/api"
	"jacquard/bits"
	"jacquard/interp"
)

// signs goes through the two types of a width.
func signs(w int) []api.Type { return []api.Type{{Width: w}, {Width: w, Signed: true}} }

// isTruth reports whether the result of an operator is one bit.
func isTruth(op int) bool { return op >= api.SrcEq && op != api.SrcNeg && op != api.SrcNot }

// checkApply reports an operator that does not have the value of the oracle.
func checkApply(t *testing.T, op int, ofType api.Type, a, b uint64) {
	t.Helper()
	result := ofType
	if isTruth(op) {
		result = u1
	}
	want := wordOf(result, calculated(op, ofType, valueOf(ofType, a), valueOf(ofType, b)))
	if got := interp.Apply(op, ofType, a, b); got != want {
		t.Errorf("Apply(%d, %v, %d, %d) = %d, not %d", op, ofType, a, b, got, want)
	}
}

// P6.1: all words of up to 4 bits, and of one bit more than they have.
func TestApplySmall(t *testing.T) {
	for w := 1; w <= 4; w++ {
		for op := api.SrcAdd; op <= api.SrcEither; op++ {
			for a := range uint64(2) << w {
				for b := range uint64(2) << w {
					for _, ofType := range signs(w) {
						checkApply(t, op, ofType, a, b)
					}
				}
			}
		}
	}
}

// corners returns words at which operators behave in a special way, some with bits above their width.
func corners(r *rand.Rand, w int) []uint64 {
	top := uint64(1) << (w - 1)
	return []uint64{0, 1, 2, 3, top - 1, top, top + 1, 2*top - 1, ^uint64(0), uint64(w) - 1, uint64(w), uint64(w) + 1, 63, 64, 65, r.Uint64(), r.Uint64() >> r.IntN(64)}
}

// P6.1: corner words of all widths, division by zero and shifts beyond the width among them.
func TestApplyCorners(t *testing.T) {
	r := rand.New(rand.NewPCG(6, 10))
	for w := 1; w <= api.MaxWidth; w++ {
		for op := api.SrcAdd; op <= api.SrcEither; op++ {
			for _, a := range corners(r, w) {
				for _, b := range corners(r, w) {
					for _, ofType := range signs(w) {
						checkApply(t, op, ofType, a, b)
					}
				}
			}
		}
	}
}

// P6.1: numbers that are no binary operators, and widths that are none.
func TestApplyInvalid(t *testing.T) {
	ops := []int{-1 << 63, -100, -1, 0, api.SrcNeg, api.SrcNot, api.SrcIsZero, api.SrcIsZero + 1, 100, 1<<63 - 1}
	for _, op := range ops {
		for w := -2; w <= api.MaxWidth+2; w++ {
			for _, ofType := range signs(w) {
				if got := interp.Apply(op, ofType, 5, 3); got != 0 {
					t.Errorf("Apply(%d, %v, 5, 3) = %d", op, ofType, got)
				}
			}
		}
	}
	for op := api.SrcAdd; op <= api.SrcEither; op++ {
		for _, w := range []int{-1 << 63, -64, -1, 0, 65, 128, 1<<63 - 1} {
			for _, ofType := range signs(w) {
				for _, x := range []uint64{0, 1, 7, ^uint64(0)} {
					if got := interp.Apply(op, ofType, x, 7); got != 0 {
						t.Errorf("Apply(%d, %v, %d, 7) = %d", op, ofType, x, got)
					}
				}
			}
		}
	}
}

// P6.1: conversions between all widths and signs.
func TestConvert(t *testing.T) {
	r := rand.New(rand.NewPCG(6, 11))
	for from := 1; from <= api.MaxWidth; from++ {
		for to := 1; to <= api.MaxWidth; to++ {
			for _, x := range corners(r, from) {
				for _, source := range signs(from) {
					for _, target := range signs(to) {
						want := wordOf(target, valueOf(source, x))
						if got := interp.Convert(source, target, x); got != want {
							t.Fatalf("Convert(%v, %v, %d) = %d, not %d", source, target, x, got, want)
						}
					}
				}
			}
		}
	}
}

// P6.1: widths that are none count as layer 1 says.
func TestConvertInvalid(t *testing.T) {
	widths := []int{-1 << 63, -1, 0, 1, 8, 64, 65, 1<<63 - 1}
	for _, from := range widths {
		for _, to := range widths {
			for _, x := range []uint64{0, 1, 200, ^uint64(0)} {
				for _, signed := range []bool{false, true} {
					want := bits.Extend(from, to, x, signed)
					for _, target := range signs(to) {
						if got := interp.Convert(api.Type{Width: from, Signed: signed}, target, x); got != want {
							t.Errorf("Convert(%d %v, %v, %d) = %d, not %d", from, signed, target, x, got, want)
						}
					}
				}
			}
		}
	}
}

// spelling returns an operator as sources have it.
func spelling(op int) string {
	return []string{"", "+", "-", "*", "/", "%", "&", "|", "^", "<<", ">>", "==", "!=", "<", "<=", ">", ">=", "&&", "||", "-", "~", "!"}[op]
}

// returned returns the word that a kernel without arrays and streams returns.
func returned(t *testing.T, program api.Node, scalars ...uint64) uint64 {
	t.Helper()
	out := run(t, program, api.Env{Scalars: scalars}, plenty)
	if out.Status != api.Done || len(out.Rets) != 1 || len(out.Arrays)+len(out.Outs)+len(out.Path) > 0 {
		t.Fatalf("%v for %v", out, scalars)
	}
	return out.Rets[0]
}

// P6.1: every operator in a program, at several widths and with both signs.
func TestOperatorsInPrograms(t *testing.T) {
	r := rand.New(rand.NewPCG(6, 12))
	for _, w := range []int{1, 2, 7, 8, 33, 64} {
		for i, ofType := range signs(w) {
			name := fmt.Sprint([]string{"u", "s"}[i], w)
			for op := api.SrcAdd; op <= api.SrcIsZero; op++ {
				result, unary := name, op >= api.SrcNeg
				if isTruth(op) {
					result = "u1"
				}
				if (op == api.SrcBoth || op == api.SrcEither || op == api.SrcIsZero) && ofType != u1 {
					continue
				}
				expr := "a " + spelling(op) + " b"
				if unary {
					expr = spelling(op) + "a"
				}
				program := mustType("kernel k(a: " + name + ", b: " + name + ") -> " + result + " { return " + expr + "; }")
				for _, a := range corners(r, w) {
					for _, b := range corners(r, w) {
						a, b := bits.Fit(w, a), bits.Fit(w, b)
						want := map[int]uint64{api.SrcNeg: bits.Fit(w, -a), api.SrcNot: bits.Fit(w, ^a), api.SrcIsZero: 1 - a}[op]
						if !unary {
							want = interp.Apply(op, ofType, a, b)
						}
						if got := returned(t, program, a, b); got != want {
							t.Errorf("%s with %s: %d for %d and %d, not %d", expr, name, got, a, b, want)
						}
					}
				}
			}
		}
	}
}
