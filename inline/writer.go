package inline

import (
	"slices"
	"strconv"

	"jacquard/api"
)

// tooLarge is the panic of a writer that would make more nodes than a tree may have.
type tooLarge struct{}

// writer writes the kernel of a program once more, without calls.
type writer struct {
	functions map[string]api.Node
	fresh     func() string // returns a name that nothing else has
	count     int           // how many nodes it has made
	list      []api.Node    // the statements of the block that it is writing
}

// newNames returns a function that returns another name each time, but none of a tree's names.
func newNames(tree api.Node) func() string {
	taken := map[string]bool{}
	var walk func(n api.Node)
	walk = func(n api.Node) {
		taken[n.Name] = true
		for _, kid := range n.Kids {
			walk(kid)
		}
	}
	walk(tree)
	count := 0
	return func() string {
		for {
			count++
			if name := "v" + strconv.Itoa(count); !taken[name] {
				return name
			}
		}
	}
}

// made returns a node with other Kids. All nodes of the result are made here, so that there are never too many of them.
func (w *writer) made(n api.Node, kids ...api.Node) api.Node {
	w.count++
	if w.count > api.MaxNodes {
		panic(tooLarge{})
	}
	n.Kids = kids
	return n
}

// add makes a statement, behind those of the block that there are.
func (w *writer) add(n api.Node, kids ...api.Node) {
	statement := w.made(n, kids...)
	w.list = append(w.list, statement)
}

// bind adds a let.
func (w *writer) bind(name string, value api.Node) {
	w.add(api.Node{Kind: api.NodeLet, Name: name, Type: value.Type, Line: value.Line}, value)
}

// kept adds a let of a new name, and returns the name for the place in a line where the value was.
func (w *writer) kept(value api.Node, line int) api.Node {
	name := w.fresh()
	w.bind(name, value)
	return w.made(api.Node{Kind: api.NodeName, Name: name, Type: value.Type, Line: line})
}

// added returns the statements that a function adds, as those of a block of their own.
func (w *writer) added(write func()) []api.Node {
	outer := w.list
	w.list = nil
	write()
	inner := w.list
	w.list = outer
	return inner
}

func (w *writer) kernel(n api.Node) api.Node {
	params, block := divided(n)
	var kids []api.Node
	for _, param := range params {
		kids = append(kids, w.made(param))
	}
	f := frame{writer: w}
	return w.made(n, append(kids, f.block(block))...)
}

// frame is a use of the statements of a function or of the kernel.
type frame struct {
	*writer
	names map[string]string // the new names of a function's scalars; nil for the kernel, whose names stay
}

// name returns what a name of the frame has become.
func (f *frame) name(old string) string {
	if f.names == nil || old == "" {
		return old
	}
	if f.names[old] == "" {
		f.names[old] = f.fresh()
	}
	return f.names[old]
}

// block returns a block, or an If behind an else. If something has to come ahead of the If, both get a block.
func (f *frame) block(n api.Node) api.Node {
	if n.Kind == api.NodeBlock {
		return f.made(n, f.added(func() { f.statements(n.Kids) })...)
	}
	list := f.added(func() { f.statement(n) })
	if len(list) == 1 {
		return list[0]
	}
	return f.made(api.Node{Kind: api.NodeBlock, Line: n.Line}, list...)
}

func (f *frame) statements(list []api.Node) {
	for _, n := range list {
		f.statement(n)
	}
}

func (f *frame) statement(n api.Node) {
	if n.Kind == api.NodeWhile && hasCall(n.Kids[0]) {
		f.repeat(n)
		return
	}
	split := slices.IndexFunc(n.Kids, isStatement)
	if split < 0 {
		split = len(n.Kids)
	}
	kids := f.exprs(n.Kids[:split], false)
	for _, kid := range n.Kids[split:] {
		kids = append(kids, f.block(kid))
	}
	n.Name = f.name(n.Name)
	f.add(n, kids...)
}

// isStatement reports whether a Kid of a statement is executed, not evaluated.
func isStatement(n api.Node) bool { return n.Kind == api.NodeBlock || n.Kind == api.NodeIf }

// repeat adds a While whose condition contains calls: a variable gets the condition ahead of the loop, and again at the end of its block.
func (f *frame) repeat(n api.Node) {
	condition, block := n.Kids[0], n.Kids[1]
	variable := api.Node{Name: f.fresh(), Type: condition.Type, Line: condition.Line}
	first, again, test := variable, variable, variable
	first.Kind, again.Kind, test.Kind = api.NodeVar, api.NodeAssign, api.NodeName
	again.Type = api.Type{}
	f.add(first, f.expr(condition, false))
	list := f.added(func() {
		f.statements(block.Kids)
		f.add(again, f.expr(condition, false))
	})
	f.add(n, f.made(test), f.made(block, list...))
}

// expr returns an expression without calls that has the value of n behind the statements that are added. If a call comes later, nothing that is received may be left for the expression.
func (f *frame) expr(n api.Node, later bool) api.Node {
	switch {
	case n.Kind == api.NodeCall:
		return f.call(n)
	case n.Kind == api.NodeRecv && later:
		return f.kept(f.made(n), n.Line)
	}
	n.Name = f.name(n.Name)
	return f.made(n, f.exprs(n.Kids, later)...)
}

// exprs returns expressions that are evaluated one behind the other.
func (f *frame) exprs(list []api.Node, later bool) []api.Node {
	var written []api.Node
	for i, n := range list {
		written = append(written, f.expr(n, later || slices.ContainsFunc(list[i+1:], hasCall)))
	}
	return written
}

func hasCall(n api.Node) bool { return n.Kind == api.NodeCall || slices.ContainsFunc(n.Kids, hasCall) }

// call adds lets for the arguments and the statements of the function, and returns a name for its result.
func (f *frame) call(n api.Node) api.Node {
	inner := frame{writer: f.writer, names: map[string]string{}}
	params, block := divided(f.functions[n.Name])
	for i, param := range params {
		value := f.expr(n.Kids[i], false)
		f.bind(inner.name(param.Name), value)
	}
	last := len(block.Kids) - 1
	inner.statements(block.Kids[:last])
	result := block.Kids[last].Kids[0] // of the Return
	return f.kept(inner.expr(result, false), n.Line)
}
