package bits_test

import (
	"math/big"

	"jacquard/api"
)

// The table of the chapter, once more: in numbers without a limit, so that no wraparound of Go hides a mistake.

func power(w int) *big.Int { return new(big.Int).Lsh(big.NewInt(1), uint(w)) }

func unsigned(x uint64) *big.Int { return new(big.Int).SetUint64(x) }

// low returns n modulo 2^w.
func low(w int, n *big.Int) uint64 { return new(big.Int).Mod(n, power(w)).Uint64() }

func signed(w int, x uint64) *big.Int {
	n := unsigned(x)
	if w > 0 && n.Bit(w-1) == 1 {
		n.Sub(n, power(w))
	}
	return n
}

func one(holds bool) uint64 {
	if holds {
		return 1
	}
	return 0
}

// expected returns the result of an operator for two words of w bits.
func expected(op, w int, a, b uint64) uint64 {
	ua, ub, sa, sb := unsigned(a), unsigned(b), signed(w, a), signed(w, b)
	n := new(big.Int)
	switch op {
	case api.OpAdd:
		return low(w, n.Add(ua, ub))
	case api.OpSub:
		return low(w, n.Sub(ua, ub))
	case api.OpMul:
		return low(w, n.Mul(ua, ub))
	case api.OpUDiv, api.OpURem:
		return divided(op == api.OpUDiv, w, ua, ub)
	case api.OpSDiv, api.OpSRem:
		return divided(op == api.OpSDiv, w, sa, sb)
	case api.OpAnd:
		return low(w, n.And(ua, ub))
	case api.OpOr:
		return low(w, n.Or(ua, ub))
	case api.OpXor:
		return low(w, n.Xor(ua, ub))
	case api.OpShl, api.OpLShr, api.OpAShr:
		return shifted(op, w, a, b)
	case api.OpEq:
		return one(ua.Cmp(ub) == 0)
	case api.OpNe:
		return one(ua.Cmp(ub) != 0)
	case api.OpULt:
		return one(ua.Cmp(ub) < 0)
	case api.OpULe:
		return one(ua.Cmp(ub) <= 0)
	case api.OpSLt:
		return one(sa.Cmp(sb) < 0)
	case api.OpSLe:
		return one(sa.Cmp(sb) <= 0)
	}
	panic("no binary operator")
}

// divided returns the word of the quotient or of the remainder, cut off toward zero.
func divided(quotient bool, w int, a, b *big.Int) uint64 {
	switch {
	case b.Sign() == 0 && quotient:
		return low(w, big.NewInt(-1))
	case b.Sign() == 0:
		return low(w, a)
	case quotient:
		return low(w, new(big.Int).Quo(a, b))
	}
	return low(w, new(big.Int).Rem(a, b))
}

func shifted(op, w int, a, b uint64) uint64 {
	far := b >= uint64(w)
	switch {
	case op == api.OpAShr && far && signed(w, a).Sign() < 0:
		return low(w, big.NewInt(-1))
	case far:
		return 0
	case op == api.OpShl:
		return low(w, new(big.Int).Mul(unsigned(a), power(int(b))))
	case op == api.OpLShr:
		return low(w, new(big.Int).Quo(unsigned(a), power(int(b))))
	}
	// Div of math/big rounds down for a divisor above 0.
	return low(w, new(big.Int).Div(signed(w, a), power(int(b))))
}
