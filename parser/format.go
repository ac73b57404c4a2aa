package parser

import (
	"strconv"
	"strings"

	"jacquard/api"
	"jacquard/lexer"
)

// Format returns a source whose syntax tree is n: ErrForm if n is not the tree of a program, ErrLimit if the source is too long.
func Format(n api.Node) (string, api.Errno) {
	if !Valid(n) {
		return "", api.ErrForm
	}
	// A source that has no blanks but the necessary ones is the shortest one of its tree: every tree that Parse returns has a source that is not too long.
	for _, tight := range []bool{false, true} {
		w := writer{tight: tight}
		w.program(n)
		if len(w.text) <= api.MaxSource {
			return string(w.text), api.OK
		}
	}
	return "", api.ErrLimit
}

// writer writes the tokens of a valid tree.
type writer struct {
	text  []byte
	tight bool // whether blanks are left out where they are not necessary
	level int  // how many blocks are open
}

// put writes tokens, with a space where two of them would become one word. (No punctuation of the grammar becomes longer punctuation by what follows it.)
func (w *writer) put(tokens ...string) {
	for _, s := range tokens {
		if end := len(w.text); end > 0 && inWord(w.text[end-1]) && inWord(s[0]) {
			w.text = append(w.text, ' ')
		}
		w.text = append(w.text, s...)
	}
}

func inWord(b byte) bool {
	return b == '_' || '0' <= b && b <= '9' || 'a' <= b && b <= 'z' || 'A' <= b && b <= 'Z'
}

// space writes a space that is not necessary.
func (w *writer) space() {
	if !w.tight {
		w.text = append(w.text, ' ')
	}
}

// spaced writes a token between spaces that are not necessary.
func (w *writer) spaced(token string) {
	w.space()
	w.put(token)
	w.space()
}

// line ends a line that need not end.
func (w *writer) line() {
	if !w.tight {
		w.text = append(w.text, '\n')
		w.text = append(w.text, strings.Repeat("\t", w.level)...)
	}
}

func (w *writer) typeName(t api.Type) { w.put(lexer.TypeName(t)) }

// number writes a number in decimal digits, or in hexadecimal ones where they are shorter.
func (w *writer) number(n uint64) {
	decimal, hex := strconv.FormatUint(n, 10), "0x"+strconv.FormatUint(n, 16)
	if len(hex) < len(decimal) {
		w.put(hex)
	} else {
		w.put(decimal)
	}
}

// list writes items in round brackets.
func (w *writer) list(items []api.Node, item func(api.Node)) {
	w.put("(")
	for i, n := range items {
		if i > 0 {
			w.put(",")
			w.space()
		}
		item(n)
	}
	w.put(")")
}

func (w *writer) program(n api.Node) {
	for _, unit := range n.Kids {
		if unit.Kind == api.NodeFunction {
			w.put("fn", unit.Name)
		} else {
			w.put("kernel", unit.Name)
		}
		last := len(unit.Kids) - 1
		w.list(unit.Kids[:last], w.param)
		if unit.Type.Width > 0 {
			w.spaced("->")
			w.typeName(unit.Type)
		}
		w.space()
		w.block(unit.Kids[last])
		w.line()
	}
}

func (w *writer) param(n api.Node) {
	w.put(n.Name, ":")
	w.space()
	switch n.Kind {
	case api.NodeIn:
		w.put("in")
	case api.NodeOut:
		w.put("out")
	}
	w.typeName(n.Type)
	if n.Kind == api.NodeArray {
		w.put("[")
		w.number(n.Num)
		w.put("]")
		w.division(n.Op, n.Factor)
	}
}

func (w *writer) division(op, factor int) {
	switch op {
	case api.Cyclic:
		w.space()
		w.put("cyclic", strconv.Itoa(factor))
	case api.Blocks:
		w.space()
		w.put("blocks", strconv.Itoa(factor))
	case api.Complete:
		w.space()
		w.put("complete")
	}
}

func (w *writer) block(n api.Node) {
	w.put("{")
	w.level++
	for _, kid := range n.Kids {
		w.line()
		w.statement(kid)
	}
	w.level--
	if len(n.Kids) > 0 {
		w.line()
	}
	w.put("}")
}

func (w *writer) statement(n api.Node) {
	switch n.Kind {
	case api.NodeVar, api.NodeLet:
		w.declaration(n)
	case api.NodeAssign:
		w.put(n.Name)
		w.value(n.Kids[0])
	case api.NodeStore:
		w.element(n)
		w.value(n.Kids[1])
	case api.NodeIf:
		w.branch(n)
	case api.NodeFor, api.NodeWhile:
		w.loop(n)
	case api.NodeSend:
		w.put("send", n.Name, "(")
		w.expr(n.Kids[0])
		w.put(")", ";")
	case api.NodeReturn:
		w.put("return")
		w.space()
		w.expr(n.Kids[0])
		w.put(";")
	}
}

func (w *writer) declaration(n api.Node) {
	if n.Kind == api.NodeVar {
		w.put("var", n.Name)
	} else {
		w.put("let", n.Name)
	}
	if n.Type.Width > 0 {
		w.put(":")
		w.space()
		w.typeName(n.Type)
	}
	if len(n.Kids) > 0 {
		w.value(n.Kids[0])
	} else {
		w.put(";")
	}
}

// value writes the end of a statement that gives something a value.
func (w *writer) value(n api.Node) {
	w.spaced("=")
	w.expr(n)
	w.put(";")
}

// element writes the array and the index of a node.
func (w *writer) element(n api.Node) {
	w.put(n.Name, "[")
	w.expr(n.Kids[0])
	w.put("]")
}

func (w *writer) branch(n api.Node) {
	w.put("if")
	w.space()
	w.expr(n.Kids[0])
	w.space()
	w.block(n.Kids[1])
	if len(n.Kids) < 3 {
		return
	}
	w.spaced("else")
	if n.Kids[2].Kind == api.NodeIf {
		w.branch(n.Kids[2])
	} else {
		w.block(n.Kids[2])
	}
}

func (w *writer) loop(n api.Node) {
	w.directive("pipeline", n.Pipeline)
	w.directive("unroll", n.Unroll)
	if n.Kind == api.NodeFor {
		w.put("for", n.Name, ":")
		w.space()
		w.typeName(n.Type)
		w.put("in")
		w.space()
		w.expr(n.Kids[0])
		w.spaced("..")
		w.expr(n.Kids[1])
	} else {
		w.put("while")
		w.space()
		w.expr(n.Kids[0])
	}
	w.space()
	w.block(n.Kids[len(n.Kids)-1])
}

// directive writes a directive whose number is not 0; 1 is what it means without a number.
func (w *writer) directive(name string, number int) {
	if number == 0 {
		return
	}
	w.put("#")
	w.space()
	w.put(name)
	if number > 1 {
		w.put(strconv.Itoa(number))
	}
	w.line()
}

// operand writes an expression, in brackets if the grammar wants one of a higher level.
func (w *writer) operand(n api.Node, least int) {
	if levelOf(n) >= least {
		w.expr(n)
		return
	}
	w.put("(")
	w.expr(n)
	w.put(")")
}

func (w *writer) expr(n api.Node) {
	switch n.Kind {
	case api.NodeNumber:
		w.constant(n)
	case api.NodeName:
		w.put(n.Name)
	case api.NodeIndex:
		w.element(n)
	case api.NodeCall:
		w.put(n.Name)
		w.list(n.Kids, w.expr)
	case api.NodeRecv:
		w.put("recv", "(", n.Name, ")")
	case api.NodeUnary:
		w.put(textOf(unaryLevel, n.Op))
		w.operand(n.Kids[0], unaryLevel)
	case api.NodeCast:
		w.operand(n.Kids[0], castLevel)
		w.space()
		w.put("as")
		w.typeName(n.Type)
	case api.NodeBinary:
		w.binary(n)
	case api.NodeCond:
		w.operand(n.Kids[0], condLevel+1)
		w.spaced("?")
		w.expr(n.Kids[1])
		w.spaced(":")
		w.expr(n.Kids[2])
	}
}

func (w *writer) constant(n api.Node) {
	switch {
	case !isTruth(n):
		w.number(n.Num)
	case n.Num == 1:
		w.put("true")
	default:
		w.put("false")
	}
}

func (w *writer) binary(n api.Node) {
	level := binaryLevel(n.Op)
	left := level
	if level == comparisons {
		left++
	}
	w.operand(n.Kids[0], left)
	w.spaced(textOf(level, n.Op))
	w.operand(n.Kids[1], level+1)
}
