package interp_test

import (
	"math/big"

	"jacquard/api"
)

// The operators of the chapter once more: values are numbers of math/big with their sign, not words.

func number(n int64) *big.Int { return big.NewInt(n) }

func power(w int) *big.Int { return new(big.Int).Lsh(number(1), uint(w)) }

// wrapped returns the value of a type that is n modulo 2^width.
func wrapped(t api.Type, n *big.Int) *big.Int {
	x := new(big.Int).Mod(n, power(t.Width))
	if t.Signed && x.Bit(t.Width-1) == 1 {
		x.Sub(x, power(t.Width))
	}
	return x
}

func valueOf(t api.Type, word uint64) *big.Int { return wrapped(t, new(big.Int).SetUint64(word)) }

func wordOf(t api.Type, n *big.Int) uint64 { return new(big.Int).Mod(n, power(t.Width)).Uint64() }

func truth(holds bool) *big.Int {
	if holds {
		return number(1)
	}
	return number(0)
}

// calculated returns the value of a binary operator for two values of a type; nil for any other operator.
func calculated(op int, t api.Type, a, b *big.Int) *big.Int {
	n := new(big.Int)
	switch op {
	case api.SrcAdd:
		return wrapped(t, n.Add(a, b))
	case api.SrcSub:
		return wrapped(t, n.Sub(a, b))
	case api.SrcMul:
		return wrapped(t, n.Mul(a, b))
	case api.SrcDiv, api.SrcRem:
		return divided(op, t, a, b)
	case api.SrcAnd:
		return n.And(a, b)
	case api.SrcOr:
		return n.Or(a, b)
	case api.SrcXor:
		return n.Xor(a, b)
	case api.SrcShl, api.SrcShr:
		amount := uint(min(wordOf(t, b), 64))
		if op == api.SrcShl {
			return wrapped(t, n.Lsh(a, amount))
		}
		return n.Rsh(a, amount) // math/big rounds down.
	case api.SrcBoth:
		return truth(a.Bit(0) == 1 && b.Bit(0) == 1)
	case api.SrcEither:
		return truth(a.Bit(0) == 1 || b.Bit(0) == 1)
	}
	return compared(op, a.Cmp(b))
}

func divided(op int, t api.Type, a, b *big.Int) *big.Int {
	switch {
	case b.Sign() != 0 && op == api.SrcDiv:
		return wrapped(t, new(big.Int).Quo(a, b))
	case b.Sign() != 0:
		return new(big.Int).Rem(a, b)
	case op == api.SrcDiv:
		return wrapped(t, number(-1))
	}
	return a
}

func compared(op, order int) *big.Int {
	switch op {
	case api.SrcEq:
		return truth(order == 0)
	case api.SrcNe:
		return truth(order != 0)
	case api.SrcLt:
		return truth(order < 0)
	case api.SrcLe:
		return truth(order <= 0)
	case api.SrcGt:
		return truth(order > 0)
	case api.SrcGe:
		return truth(order >= 0)
	}
	return nil
}
