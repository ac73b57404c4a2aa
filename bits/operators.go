package bits

import "jacquard/api"

// Binary returns the result of a binary operator on two words of w bits: ErrArg if op is no binary operator, or w is not from 1 to api.MaxWidth.
func Binary(op, w int, a, b uint64) (uint64, api.Errno) {
	if !IsBinary(op) || !isWidth(w) {
		return 0, api.ErrArg
	}
	return Fit(w, compute(op, w, Fit(w, a), Fit(w, b))), api.OK
}

// compute returns a word whose low w bits are the result of a binary operator on two words of w bits.
func compute(op, w int, a, b uint64) uint64 {
	switch op {
	case api.OpAdd:
		return a + b
	case api.OpSub:
		return a - b
	case api.OpMul:
		return a * b
	case api.OpUDiv:
		return quotient(w, a, b)
	case api.OpURem:
		return remainder(a, b)
	case api.OpSDiv:
		return signedQuotient(w, a, b)
	case api.OpSRem:
		return signedRemainder(w, a, b)
	case api.OpAnd:
		return a & b
	case api.OpOr:
		return a | b
	case api.OpXor:
		return a ^ b
	// Shifts need no case for great amounts: Go fills with zeros, or with the sign, however great the amount is.
	case api.OpShl:
		return a << b
	case api.OpLShr:
		return a >> b
	case api.OpAShr:
		return uint64(Signed(w, a) >> b)
	case api.OpEq:
		return truth(a == b)
	case api.OpNe:
		return truth(a != b)
	case api.OpULt:
		return truth(a < b)
	case api.OpULe:
		return truth(a <= b)
	case api.OpSLt:
		return truth(Signed(w, a) < Signed(w, b))
	case api.OpSLe:
		return truth(Signed(w, a) <= Signed(w, b))
	}
	return 0
}

func quotient(w int, a, b uint64) uint64 {
	if b == 0 {
		return Mask(w)
	}
	return a / b
}

func remainder(a, b uint64) uint64 {
	if b == 0 {
		return a
	}
	return a % b
}

func signedQuotient(w int, a, b uint64) uint64 {
	if b == 0 {
		return Mask(w)
	}
	// The least word divided by -1 wraps to itself: below 64 bits when the result is cut, at 64 bits by Go's own division.
	return From(w, Signed(w, a)/Signed(w, b))
}

func signedRemainder(w int, a, b uint64) uint64 {
	if b == 0 {
		return a
	}
	return From(w, Signed(w, a)%Signed(w, b))
}

func truth(holds bool) uint64 {
	if holds {
		return 1
	}
	return 0
}

func isWidth(w int) bool { return w >= 1 && w <= api.MaxWidth }

// IsBinary reports whether op is a binary operator.
func IsBinary(op int) bool { return op >= api.OpAdd && op <= api.OpSLe }

// IsCompare reports whether op is a comparison, whose result is 0 or 1.
func IsCompare(op int) bool { return op >= api.OpEq && op <= api.OpSLe }

// Commutes reports whether a op b = b op a for all words.
func Commutes(op int) bool {
	switch op {
	case api.OpAdd, api.OpMul, api.OpAnd, api.OpOr, api.OpXor, api.OpEq, api.OpNe:
		return true
	}
	return false
}

// Associates reports whether (a op b) op c = a op (b op c) for all words.
func Associates(op int) bool {
	switch op {
	case api.OpAdd, api.OpMul, api.OpAnd, api.OpOr, api.OpXor:
		return true
	}
	return false
}

// Identity returns the word e with a op e = a for all words a of w bits, and true; 0 and false if there is none, or w is not from 1 to api.MaxWidth.
func Identity(op, w int) (uint64, bool) {
	if !isWidth(w) {
		return 0, false
	}
	switch op {
	case api.OpAdd, api.OpSub, api.OpOr, api.OpXor, api.OpShl, api.OpLShr, api.OpAShr:
		return 0, true
	case api.OpMul, api.OpUDiv, api.OpSDiv:
		return 1, true
	case api.OpAnd:
		return Mask(w), true
	}
	return 0, false
}
