package bits_test

import (
	"math"
	"math/big"
	"slices"
	"testing"

	"jacquard/api"
	"jacquard/bits"
)

// clamp returns the width that an int counts as.
func clamp(w int) int { return max(0, min(w, api.MaxWidth)) }

// corners returns numbers around which words of w bits wrap, change their sign, or are shifted away; not all of them are words of w bits.
func corners(w int) []uint64 {
	list := []uint64{0, 1, 2, 3, 5, 10, 0xA5A5A5A5A5A5A5A5, 0x5A5A5A5A5A5A5A5A, math.MaxUint64, math.MaxUint64 - 1, 1 << 63, 1<<63 - 1, 1 << 32}
	for _, n := range []int{clamp(w) - 1, clamp(w)} {
		if n >= 0 && n < 64 {
			list = append(list, 1<<n, 1<<n-1, 1<<n+1)
		}
	}
	list = append(list, uint64(clamp(w)), uint64(clamp(w))+1, uint64(clamp(w))-1)
	slices.Sort(list)
	return slices.Compact(list)
}

// widths are ordinary widths and those that count as 0 or 64.
func widths() []int {
	list := []int{math.MinInt, -64, -1, 65, 66, 128, 1 << 32, math.MaxInt}
	for w := range 65 {
		list = append(list, w)
	}
	return list
}

// P1.1
func TestMaskAndFit(t *testing.T) {
	for _, w := range widths() {
		ones := low(64, new(big.Int).Sub(power(clamp(w)), big.NewInt(1)))
		if got := bits.Mask(w); got != ones {
			t.Errorf("Mask(%d) = %d, not %d", w, got, ones)
		}
		for _, x := range corners(w) {
			if got, want := bits.Fit(w, x), low(clamp(w), unsigned(x)); got != want {
				t.Errorf("Fit(%d, %d) = %d, not %d", w, x, got, want)
			}
		}
	}
}

// P1.1
func TestSignedAndFrom(t *testing.T) {
	for _, w := range widths() {
		for _, x := range corners(w) {
			word := low(clamp(w), unsigned(x))
			want := signed(clamp(w), word)
			if got := bits.Signed(w, x); big.NewInt(got).Cmp(want) != 0 {
				t.Errorf("Signed(%d, %d) = %d, not %v", w, x, got, want)
			}
			if got, want := bits.From(w, int64(x)), low(clamp(w), big.NewInt(int64(x))); got != want {
				t.Errorf("From(%d, %d) = %d, not %d", w, int64(x), got, want)
			}
			if got := bits.From(w, bits.Signed(w, x)); got != word {
				t.Errorf("From(%d) of Signed(%d) = %d, not %d", w, x, got, word)
			}
		}
	}
}

// P1.1
func TestExtend(t *testing.T) {
	for _, from := range widths() {
		for _, to := range widths() {
			for _, x := range corners(from) {
				word := low(clamp(from), unsigned(x))
				if got, want := bits.Extend(from, to, x, false), low(clamp(to), unsigned(word)); got != want {
					t.Errorf("Extend(%d, %d, %d, false) = %d, not %d", from, to, x, got, want)
				}
				if got, want := bits.Extend(from, to, x, true), low(clamp(to), signed(clamp(from), word)); got != want {
					t.Errorf("Extend(%d, %d, %d, true) = %d, not %d", from, to, x, got, want)
				}
			}
		}
	}
}

// P1.1
func TestLength(t *testing.T) {
	if got := bits.Length(0); got != 0 {
		t.Errorf("Length(0) = %d", got)
	}
	for n := range 64 {
		for _, x := range []uint64{1 << n, 1<<n | 1<<n>>1, 1<<n | 1, 1<<n | (1<<n - 1)} {
			if got := bits.Length(x); got != n+1 {
				t.Errorf("Length(%d) = %d, not %d", x, got, n+1)
			}
		}
	}
}
