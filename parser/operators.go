package parser

import "jacquard/api"

// operator is an operator of the source language with its text.
type operator struct {
	text string
	op   int
}

// Levels of expressions that are not those of binary operators.
const (
	condLevel    = -1 // an expression of any kind
	castLevel    = 9  // an operand of the binary operators that bind closest
	unaryLevel   = 10 // the operand of a cast, if that is none itself
	primaryLevel = 11 // the operand of a unary operator, if that is none itself
)

// comparisons is the level whose operators cannot be chained.
const comparisons = 2

// levels are the operators of each level: those of a row bind closer than those of the rows ahead of it.
var levels = [primaryLevel][]operator{
	{{"||", api.SrcEither}},
	{{"&&", api.SrcBoth}},
	{{"==", api.SrcEq}, {"!=", api.SrcNe}, {"<", api.SrcLt}, {"<=", api.SrcLe}, {">", api.SrcGt}, {">=", api.SrcGe}},
	{{"|", api.SrcOr}},
	{{"^", api.SrcXor}},
	{{"&", api.SrcAnd}},
	{{"<<", api.SrcShl}, {">>", api.SrcShr}},
	{{"+", api.SrcAdd}, {"-", api.SrcSub}},
	{{"*", api.SrcMul}, {"/", api.SrcDiv}, {"%", api.SrcRem}},
	{}, // A cast is not written with an operator.
	{{"-", api.SrcNeg}, {"~", api.SrcNot}, {"!", api.SrcIsZero}},
}

// textOf returns the text of an operator of a level, an empty one if the level does not have it.
func textOf(level, op int) string {
	for _, o := range levels[level] {
		if o.op == op {
			return o.text
		}
	}
	return ""
}

// binaryLevel returns the level of a binary operator, castLevel if there is no such operator.
func binaryLevel(op int) int {
	for level := range castLevel {
		if textOf(level, op) != "" {
			return level
		}
	}
	return castLevel
}

// levelOf returns the level of an expression.
func levelOf(n api.Node) int {
	switch n.Kind {
	case api.NodeCond:
		return condLevel
	case api.NodeBinary:
		return binaryLevel(n.Op)
	case api.NodeCast:
		return castLevel
	case api.NodeUnary:
		return unaryLevel
	}
	return primaryLevel
}
