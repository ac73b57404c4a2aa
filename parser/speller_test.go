package parser_test

import (
	"math/rand/v2"
	"slices"
	"strconv"
	"strings"

	"jacquard/api"
)

// speller writes a source of a tree, and sets the lines of its nodes. It writes something for any other tree too, but no source of that tree.
type speller struct {
	r    *rand.Rand // nil: blanks and brackets are only those that are necessary
	text strings.Builder
	line int
}

// spell returns a source of a tree, and sets the lines of the tree's nodes.
func spell(n *api.Node, r *rand.Rand) string {
	s := speller{r: r, line: 1}
	n.Line = 1
	for i := range n.Kids {
		line := s.unit(&n.Kids[i])
		if i == 0 {
			n.Line = line
		}
	}
	s.gap()
	return s.text.String()
}

// gap writes blanks and comments.
func (s *speller) gap() {
	gap := " "
	if s.r != nil {
		gap = []string{" ", " ", "\t", "\n", "\r\n", "\r", " // ( [ { ; 1u @\n", " //\n\n", "\n// fn\n "}[s.r.IntN(9)]
	}
	s.line += strings.Count(gap, "\n")
	s.text.WriteString(gap)
}

// words writes tokens, and returns the line of the first one.
func (s *speller) words(list ...string) int {
	first := 0
	for i, word := range list {
		s.gap()
		s.text.WriteString(word)
		if i == 0 {
			first = s.line
		}
	}
	return first
}

// kid returns a Kid, or a node of no kind if there are not so many.
func kid(n *api.Node, i int) *api.Node {
	if i >= 0 && i < len(n.Kids) {
		return &n.Kids[i]
	}
	return &api.Node{}
}

func (s *speller) typeName(t api.Type) string {
	if t == (api.Type{Width: 1}) && s.r != nil && s.r.IntN(2) == 0 {
		return "bool"
	}
	return map[bool]string{false: "u", true: "s"}[t.Signed] + strconv.Itoa(t.Width)
}

func (s *speller) unit(n *api.Node) int {
	n.Line = s.words(map[int]string{api.NodeFunction: "fn", api.NodeKernel: "kernel"}[n.Kind], n.Name, "(")
	for i := 0; i < len(n.Kids)-1; i++ {
		if i > 0 {
			s.words(",")
		}
		s.param(&n.Kids[i])
	}
	s.words(")")
	if n.Kind == api.NodeFunction || n.Type != (api.Type{}) {
		s.words("->", s.typeName(n.Type))
	}
	s.block(kid(n, len(n.Kids)-1))
	return n.Line
}

func (s *speller) param(n *api.Node) {
	n.Line = s.words(n.Name, ":", map[int]string{api.NodeIn: "in", api.NodeOut: "out"}[n.Kind], s.typeName(n.Type))
	if n.Kind != api.NodeArray {
		return
	}
	s.words("[", s.number(n.Num), "]")
	if n.Op == api.Cyclic || n.Op == api.Blocks {
		s.words([]string{api.Cyclic: "cyclic", api.Blocks: "blocks"}[n.Op], strconv.Itoa(n.Factor))
	}
	if n.Op == api.Complete {
		s.words("complete")
	}
}

// number returns a number's digits of any base.
func (s *speller) number(n uint64) string {
	base, form := 10, ""
	if s.r != nil {
		i := s.r.IntN(3)
		base, form = []int{2, 10, 16}[i], []string{"0b", "", "0x"}[i]+strings.Repeat("0", s.r.IntN(3))
	}
	return form + strconv.FormatUint(n, base)
}

func (s *speller) block(n *api.Node) {
	if n.Kind != api.NodeBlock {
		s.words("@")
		return
	}
	n.Line = s.words("{")
	for i := range n.Kids {
		s.statement(&n.Kids[i])
	}
	s.words("}")
}

func (s *speller) statement(n *api.Node) {
	switch n.Kind {
	case api.NodeVar, api.NodeLet:
		s.declaration(n)
	case api.NodeAssign:
		n.Line = s.words(n.Name)
		s.value(n, 0, "=", ";")
	case api.NodeStore:
		n.Line = s.words(n.Name)
		s.value(n, 0, "[", "]")
		s.value(n, 1, "=", ";")
	case api.NodeIf:
		s.branch(n)
	case api.NodeFor, api.NodeWhile:
		s.loop(n)
	case api.NodeSend:
		n.Line = s.words("send", n.Name)
		s.value(n, 0, "(", ")")
		s.words(";")
	case api.NodeReturn:
		n.Line = s.words("return")
		s.value(n, 0, "", ";")
	default:
		s.words("@")
	}
}

// value writes a Kid between two tokens.
func (s *speller) value(n *api.Node, i int, before, after string) {
	s.words(before)
	s.expr(kid(n, i), 0)
	s.words(after)
}

func (s *speller) declaration(n *api.Node) {
	n.Line = s.words(map[int]string{api.NodeVar: "var", api.NodeLet: "let"}[n.Kind], n.Name)
	if n.Kind == api.NodeVar || n.Type != (api.Type{}) {
		s.words(":", s.typeName(n.Type))
	}
	if n.Kind == api.NodeLet || len(n.Kids) > 0 {
		s.words("=")
		s.expr(kid(n, 0), 0)
	}
	s.words(";")
}

func (s *speller) branch(n *api.Node) {
	n.Line = s.words("if")
	s.expr(kid(n, 0), 0)
	s.block(kid(n, 1))
	switch other := kid(n, 2); other.Kind {
	case 0:
	case api.NodeIf:
		s.words("else")
		s.branch(other)
	default:
		s.words("else")
		s.block(other)
	}
}

func (s *speller) loop(n *api.Node) {
	list := slices.Concat(s.directive("pipeline", n.Pipeline), s.directive("unroll", n.Unroll))
	if s.r != nil && s.r.IntN(2) == 0 {
		list = slices.Concat(s.directive("unroll", n.Unroll), s.directive("pipeline", n.Pipeline))
	}
	if n.Kind == api.NodeWhile {
		n.Line = s.words(append(list, "while")...)
		s.expr(kid(n, 0), 0)
		s.block(kid(n, 1))
		return
	}
	n.Line = s.words(append(list, "for", n.Name, ":", s.typeName(n.Type), "in")...)
	s.expr(kid(n, 0), 0)
	s.words("..")
	s.expr(kid(n, 1), 0)
	s.block(kid(n, 2))
}

// directive returns the words of a directive: its number need not, and for unroll must not, be written if it is 1.
func (s *speller) directive(name string, amount int) []string {
	switch {
	case amount == 0:
		return nil
	case amount != 1 || name == "pipeline" && s.r != nil && s.r.IntN(2) == 0:
		return []string{"#", name, strconv.Itoa(amount)}
	}
	return []string{"#", name}
}

// The levels of expressions: that of a conditional one, those of binary operators, of casts, of unary operators, and of all others.
const (
	binaryOperators = "|| && == != < <= > >= | ^ & << >> + - * / %"
	binaryLevels    = "1 2 3 3 3 3 3 3 4 5 6 7 7 8 8 9 9 9"
	castLevel       = 10
	unaryLevel      = 11
)

// binaryNumbers are the numbers of binaryOperators.
var binaryNumbers = []int{
	api.SrcEither, api.SrcBoth, api.SrcEq, api.SrcNe, api.SrcLt, api.SrcLe, api.SrcGt, api.SrcGe,
	api.SrcOr, api.SrcXor, api.SrcAnd, api.SrcShl, api.SrcShr, api.SrcAdd, api.SrcSub, api.SrcMul, api.SrcDiv, api.SrcRem,
}

// binary returns the text and the level of a binary operator.
func binary(op int) (string, int) {
	for i, number := range binaryNumbers {
		if number == op {
			level, _ := strconv.Atoi(strings.Fields(binaryLevels)[i])
			return strings.Fields(binaryOperators)[i], level
		}
	}
	return "@", 0
}

func levelOf(n *api.Node) int {
	switch n.Kind {
	case api.NodeCond:
		return 0
	case api.NodeBinary:
		_, level := binary(n.Op)
		return level
	case api.NodeCast:
		return castLevel
	case api.NodeUnary:
		return unaryLevel
	}
	return 12
}

// expr writes an expression where one of a level, or of a higher one, may stand, and returns the line of the first token, which may be a bracket around it.
func (s *speller) expr(n *api.Node, least int) int {
	if levelOf(n) >= least && (s.r == nil || s.r.IntN(6) > 0) {
		n.Line = s.bare(n)
		return n.Line
	}
	line := s.words("(")
	s.expr(n, 0)
	s.words(")")
	return line
}

// bare writes an expression without brackets around it, and returns its line.
func (s *speller) bare(n *api.Node) int {
	switch n.Kind {
	case api.NodeNumber:
		return s.words(s.constant(n))
	case api.NodeName:
		return s.words(n.Name)
	case api.NodeIndex:
		line := s.words(n.Name)
		s.value(n, 0, "[", "]")
		return line
	case api.NodeUnary:
		line := s.words(map[int]string{api.SrcNeg: "-", api.SrcNot: "~", api.SrcIsZero: "!"}[n.Op])
		s.expr(kid(n, 0), unaryLevel)
		return line
	case api.NodeBinary:
		text, level := binary(n.Op)
		left := level
		if level == 3 {
			left++
		}
		line := s.expr(kid(n, 0), left)
		s.words(text)
		s.expr(kid(n, 1), level+1)
		return line
	case api.NodeCond:
		line := s.expr(kid(n, 0), 1)
		s.value(n, 1, "?", ":")
		s.expr(kid(n, 2), 0)
		return line
	case api.NodeCast:
		line := s.expr(kid(n, 0), castLevel)
		s.words("as", s.typeName(n.Type))
		return line
	case api.NodeCall:
		return s.call(n)
	case api.NodeRecv:
		return s.words("recv", "(", n.Name, ")")
	}
	return s.words("@")
}

func (s *speller) constant(n *api.Node) string {
	switch {
	case n.Type != api.Type{Width: 1}:
		return s.number(n.Num)
	case n.Num > 1:
		return "@"
	}
	return []string{"false", "true"}[n.Num]
}

func (s *speller) call(n *api.Node) int {
	line := s.words(n.Name, "(")
	for i := range n.Kids {
		if i > 0 {
			s.words(",")
		}
		s.expr(&n.Kids[i], 0)
	}
	s.words(")")
	return line
}
