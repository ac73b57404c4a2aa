package bits

import "jacquard/api"

// Name returns the name of an operator of the IR, "" for any other number.
func Name(op int) string {
	switch op {
	case api.OpConst:
		return "const"
	case api.OpSelect:
		return "select"
	case api.OpZExt:
		return "zext"
	case api.OpSExt:
		return "sext"
	case api.OpTrunc:
		return "trunc"
	case api.OpLoad:
		return "load"
	case api.OpStore:
		return "store"
	case api.OpRecv:
		return "recv"
	case api.OpSend:
		return "send"
	}
	return binaryName(op)
}

func binaryName(op int) string {
	switch op {
	case api.OpAdd:
		return "add"
	case api.OpSub:
		return "sub"
	case api.OpMul:
		return "mul"
	case api.OpUDiv:
		return "udiv"
	case api.OpURem:
		return "urem"
	case api.OpSDiv:
		return "sdiv"
	case api.OpSRem:
		return "srem"
	case api.OpAnd:
		return "and"
	case api.OpOr:
		return "or"
	case api.OpXor:
		return "xor"
	case api.OpShl:
		return "shl"
	case api.OpLShr:
		return "lshr"
	case api.OpAShr:
		return "ashr"
	case api.OpEq:
		return "eq"
	case api.OpNe:
		return "ne"
	case api.OpULt:
		return "ult"
	case api.OpULe:
		return "ule"
	case api.OpSLt:
		return "slt"
	case api.OpSLe:
		return "sle"
	}
	return ""
}

// Find returns the operator with a name, 0 if there is none.
func Find(name string) int {
	for op := api.OpConst; op <= api.OpSend; op++ {
		if Name(op) == name {
			return op
		}
	}
	return 0
}
