package parser

import (
	"jacquard/api"
	"jacquard/lexer"
)

// greatest is the greatest number in directives, lengths and factors.
const greatest = 1048576

// reader reads tokens by the rules of the grammar, each of which is a method.
type reader struct {
	tokens []api.Token
	at     int // the index of the next token
	bad    int // the line of the first token that cannot follow, 0 until it is met
}

// next returns the next token, the zero Token at the end.
func (r *reader) next() api.Token {
	if r.at == len(r.tokens) {
		return api.Token{}
	}
	return r.tokens[r.at]
}

// fail notes that the next token cannot follow, and goes to the end, where no rule finds what it could read on.
func (r *reader) fail() {
	if r.bad == 0 {
		r.bad = r.tokens[min(r.at, len(r.tokens)-1)].Line
	}
	r.at = len(r.tokens)
}

// skip reads the next token if it is the keyword, the punctuation or the name with a text. (No two kinds have texts in common.)
func (r *reader) skip(text string) bool {
	found := r.next().Text == text
	if found {
		r.at++
	}
	return found
}

func (r *reader) expect(text string) {
	if !r.skip(text) {
		r.fail()
	}
}

func (r *reader) name() string {
	t := r.next()
	if t.Kind != api.TokenName {
		r.fail()
		return ""
	}
	r.at++
	return t.Text
}

// number reads a number of a directive, a length or a factor.
func (r *reader) number(least uint64) uint64 {
	t := r.next()
	if t.Kind != api.TokenNumber || t.Num < least || t.Num > greatest {
		r.fail()
		return 0
	}
	r.at++
	return t.Num
}

func (r *reader) typeName() api.Type {
	t, ok := lexer.Type(r.next().Text)
	if !ok {
		r.fail()
		return api.Type{}
	}
	r.at++
	return t
}

// node returns a node that begins with the next token.
func (r *reader) node(kind int) api.Node { return api.Node{Kind: kind, Line: r.next().Line} }

// list reads any number of items in round brackets.
func (r *reader) list(item func() api.Node) []api.Node {
	r.expect("(")
	if r.skip(")") {
		return nil
	}
	kids := []api.Node{item()}
	for r.skip(",") {
		kids = append(kids, item())
	}
	r.expect(")")
	return kids
}

func (r *reader) program() api.Node {
	n := r.node(api.NodeProgram)
	n.Line = max(n.Line, 1)
	for r.at < len(r.tokens) {
		if r.next().Text == "fn" {
			n.Kids = append(n.Kids, r.function())
		} else {
			n.Kids = append(n.Kids, r.kernel())
		}
	}
	return n
}

func (r *reader) function() api.Node {
	n := r.node(api.NodeFunction)
	r.expect("fn")
	n.Name = r.name()
	n.Kids = r.list(r.scalar)
	r.expect("->")
	n.Type = r.typeName()
	n.Kids = append(n.Kids, r.block())
	return n
}

func (r *reader) scalar() api.Node {
	n := r.node(api.NodeParam)
	n.Name = r.name()
	r.expect(":")
	n.Type = r.typeName()
	return n
}

func (r *reader) kernel() api.Node {
	n := r.node(api.NodeKernel)
	r.expect("kernel")
	n.Name = r.name()
	n.Kids = r.list(r.param)
	if r.skip("->") {
		n.Type = r.typeName()
	}
	n.Kids = append(n.Kids, r.block())
	return n
}

func (r *reader) param() api.Node {
	n := r.node(api.NodeParam)
	n.Name = r.name()
	r.expect(":")
	switch {
	case r.skip("in"):
		n.Kind = api.NodeIn
	case r.skip("out"):
		n.Kind = api.NodeOut
	}
	n.Type = r.typeName()
	if n.Kind == api.NodeParam && r.skip("[") {
		n.Kind = api.NodeArray
		n.Num = r.number(0)
		r.expect("]")
		n.Op, n.Factor = r.division()
	}
	return n
}

func (r *reader) division() (op, factor int) {
	switch {
	case r.skip("cyclic"):
		return api.Cyclic, int(r.number(0))
	case r.skip("blocks"):
		return api.Blocks, int(r.number(0))
	case r.skip("complete"):
		return api.Complete, 0
	}
	return api.Whole, 0
}

func (r *reader) block() api.Node {
	n := r.node(api.NodeBlock)
	r.expect("{")
	for r.at < len(r.tokens) && r.next().Text != "}" {
		n.Kids = append(n.Kids, r.statement())
	}
	r.expect("}")
	return n
}

func (r *reader) statement() api.Node {
	switch r.next().Text {
	case "var", "let":
		return r.declaration()
	case "if":
		return r.branch()
	case "#", "for", "while":
		return r.loop()
	case "send":
		return r.send()
	case "return":
		return r.result()
	}
	return r.change()
}

func (r *reader) declaration() api.Node {
	n := r.node(api.NodeVar)
	if r.skip("let") {
		n.Kind = api.NodeLet
	} else {
		r.expect("var")
	}
	n.Name = r.name()
	if n.Kind == api.NodeVar {
		r.expect(":")
		n.Type = r.typeName()
	} else if r.skip(":") {
		n.Type = r.typeName()
	}
	if n.Kind == api.NodeLet || r.next().Text == "=" {
		r.expect("=")
		n.Kids = []api.Node{r.expr()}
	}
	r.expect(";")
	return n
}

// change reads a statement that begins with a name: an assignment or a store.
func (r *reader) change() api.Node {
	n := r.node(api.NodeAssign)
	n.Name = r.name()
	if r.skip("[") {
		n.Kind = api.NodeStore
		n.Kids = append(n.Kids, r.expr())
		r.expect("]")
	}
	r.expect("=")
	n.Kids = append(n.Kids, r.expr())
	r.expect(";")
	return n
}

func (r *reader) branch() api.Node {
	n := r.node(api.NodeIf)
	r.expect("if")
	n.Kids = []api.Node{r.expr(), r.block()}
	if r.skip("else") {
		if r.next().Text == "if" {
			n.Kids = append(n.Kids, r.branch())
		} else {
			n.Kids = append(n.Kids, r.block())
		}
	}
	return n
}

func (r *reader) loop() api.Node {
	n := r.node(api.NodeWhile)
	// With one directive of each kind, another # cannot follow.
	for (n.Pipeline == 0 || n.Unroll == 0) && r.skip("#") {
		r.directive(&n)
	}
	if !r.skip("for") {
		r.expect("while")
		n.Kids = []api.Node{r.expr(), r.block()}
		return n
	}
	n.Kind = api.NodeFor
	n.Name = r.name()
	r.expect(":")
	n.Type = r.typeName()
	r.expect("in")
	n.Kids = append(n.Kids, r.expr())
	r.expect("..")
	n.Kids = append(n.Kids, r.expr(), r.block())
	return n
}

// directive reads a directive of a loop behind its #.
func (r *reader) directive(loop *api.Node) {
	switch {
	case loop.Pipeline == 0 && r.skip("pipeline"):
		loop.Pipeline = r.amount(1)
	case loop.Unroll == 0 && r.skip("unroll"):
		loop.Unroll = r.amount(2)
	default:
		r.fail()
	}
}

// amount reads the number of a directive; without one, it is 1.
func (r *reader) amount(least uint64) int {
	if r.next().Kind != api.TokenNumber {
		return 1
	}
	return int(r.number(least))
}

func (r *reader) send() api.Node {
	n := r.node(api.NodeSend)
	r.expect("send")
	n.Name = r.name()
	r.expect("(")
	n.Kids = []api.Node{r.expr()}
	r.expect(")")
	r.expect(";")
	return n
}

func (r *reader) result() api.Node {
	n := r.node(api.NodeReturn)
	r.expect("return")
	n.Kids = []api.Node{r.expr()}
	r.expect(";")
	return n
}

func (r *reader) expr() api.Node {
	n := r.node(api.NodeCond)
	first := r.binary(0)
	if !r.skip("?") {
		return first
	}
	second := r.expr()
	r.expect(":")
	n.Kids = []api.Node{first, second, r.expr()}
	return n
}

// binary reads operands of a level of binary operators, and the operators between them.
func (r *reader) binary(level int) api.Node {
	if level == castLevel {
		return r.cast()
	}
	line := r.next().Line
	left := r.binary(level + 1)
	for {
		op := r.operator(level)
		if op == 0 {
			return left
		}
		left = api.Node{Kind: api.NodeBinary, Line: line, Op: op, Kids: []api.Node{left, r.binary(level + 1)}}
		if level == comparisons {
			return left
		}
	}
}

// operator reads an operator of a level, and returns its number, or 0 if the next token is none of them.
func (r *reader) operator(level int) int {
	for _, o := range levels[level] {
		if r.skip(o.text) {
			return o.op
		}
	}
	return 0
}

func (r *reader) cast() api.Node {
	line := r.next().Line
	n := r.unary()
	for r.skip("as") {
		n = api.Node{Kind: api.NodeCast, Line: line, Type: r.typeName(), Kids: []api.Node{n}}
	}
	return n
}

func (r *reader) unary() api.Node {
	n := r.node(api.NodeUnary)
	n.Op = r.operator(unaryLevel)
	if n.Op == 0 {
		return r.primary()
	}
	n.Kids = []api.Node{r.unary()}
	return n
}

func (r *reader) primary() api.Node {
	n := r.node(api.NodeNumber)
	switch t := r.next(); {
	case t.Kind == api.TokenNumber:
		r.at++
		n.Num = t.Num
		return n
	case r.skip("true"):
		n.Num, n.Type = 1, api.Type{Width: 1}
		return n
	case r.skip("false"):
		n.Type = api.Type{Width: 1}
		return n
	case r.skip("recv"):
		n.Kind = api.NodeRecv
		r.expect("(")
		n.Name = r.name()
		r.expect(")")
		return n
	case r.skip("("):
		inner := r.expr()
		r.expect(")")
		return inner
	}
	return r.use()
}

// use reads an expression that begins with a name: a call, an element of an array, or the name alone.
func (r *reader) use() api.Node {
	n := r.node(api.NodeName)
	n.Name = r.name()
	if r.next().Text == "(" {
		n.Kind = api.NodeCall
		n.Kids = r.list(r.expr)
	} else if r.skip("[") {
		n.Kind = api.NodeIndex
		n.Kids = []api.Node{r.expr()}
		r.expect("]")
	}
	return n
}
