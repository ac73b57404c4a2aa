package types_test

import (
	"iter"
	"math/rand/v2"
	"slices"

	"jacquard/api"
)

// Names and types of samples.
var (
	names = []string{"a", "b", "c", "d", "e", "f", "g", "h", "i", "j", "f0", "f1", "f2", "f3", "k"}
	some  = []api.Type{{Width: 1}, {Width: 8}, {Width: 8, Signed: true}, {Width: 32}, {Width: 64}, {Width: 3, Signed: true}}
)

// known is a name that a sample may use.
type known struct {
	name   string
	kind   int // NodeVar, or a kind of parameters; NodeParam for all scalars that are no variables
	ofType api.Type
}

// maker makes programs with all types at random. Each node has a line of its own.
type maker struct {
	*rand.Rand
	line      int
	left      int          // how many nodes more may have Kids of their own
	free      map[int]bool // the lines of numbers and lets whose type is not in the source
	functions []api.Node
	visible   []known
	result    api.Type
}

func pick[T any](m *maker, list []T) T { return list[m.IntN(len(list))] }

func (m *maker) node(kind int, ofType api.Type, kids ...api.Node) api.Node {
	m.line++
	return api.Node{Kind: kind, Type: ofType, Line: m.line, Kids: kids}
}

func (m *maker) named(kind int, name string, ofType api.Type, kids ...api.Node) api.Node {
	n := m.node(kind, ofType, kids...)
	n.Name = name
	return n
}

// find returns a visible name of a kind that has a type, or any type with the zero one, if there is such a name.
func (m *maker) find(kind int, ofType api.Type) (known, bool) {
	var list []known
	for _, k := range m.visible {
		if k.kind == kind && (k.ofType == ofType || ofType == api.Type{}) {
			list = append(list, k)
		}
	}
	if len(list) == 0 {
		return known{}, false
	}
	return pick(m, list), true
}

// declare makes a name visible, and returns it; false if all names are visible.
func (m *maker) declare(kind int, ofType api.Type) (string, bool) {
	for _, i := range m.Perm(len(names)) {
		if !slices.ContainsFunc(m.visible, func(k known) bool { return k.name == names[i] }) {
			m.visible = append(m.visible, known{names[i], kind, ofType})
			return names[i], true
		}
	}
	return "", false
}

// program returns a program with all types, and the lines of the numbers and lets whose type is not in its source.
func (m *maker) program() (api.Node, map[int]bool) {
	m.line, m.free, m.functions = 0, map[int]bool{}, nil
	units := []api.Node{}
	for i := range m.IntN(5) {
		f := m.unit(api.NodeFunction, []string{"f0", "f1", "f2", "f3"}[i], pick(m, some))
		units = append(units, f)
		m.functions = append(m.functions, f)
	}
	result := api.Type{}
	if m.IntN(2) == 0 {
		result = pick(m, some)
	}
	units = append(units, m.unit(api.NodeKernel, "k", result))
	m.Shuffle(len(units), func(i, j int) { units[i], units[j] = units[j], units[i] })
	return m.node(api.NodeProgram, api.Type{}, units...), m.free
}

func (m *maker) unit(kind int, name string, result api.Type) api.Node {
	m.visible, m.left = nil, m.IntN(60)
	var kids []api.Node
	for range m.IntN(7) {
		param := api.NodeParam
		if kind == api.NodeKernel {
			param = pick(m, []int{api.NodeParam, api.NodeArray, api.NodeIn, api.NodeOut})
		}
		kids = append(kids, m.param(param, pick(m, some)))
	}
	list := m.statements()
	if result.Width > 0 {
		list = append(list, m.node(api.NodeReturn, api.Type{}, m.wanted(result)))
	}
	return m.named(kind, name, result, append(kids, m.node(api.NodeBlock, api.Type{}, list...))...)
}

func (m *maker) param(kind int, ofType api.Type) api.Node {
	name, _ := m.declare(kind, ofType)
	n := m.named(kind, name, ofType)
	if kind != api.NodeArray {
		return n
	}
	n.Num = pick(m, []uint64{1, 2, 5, 64})
	n.Op = m.IntN(4)
	if n.Op == api.Cyclic || n.Op == api.Blocks {
		n.Factor = 1 + m.IntN(int(n.Num))
	}
	return n
}

// block returns a block, behind which its names are not visible any more.
func (m *maker) block() api.Node {
	visible := len(m.visible)
	n := m.node(api.NodeBlock, api.Type{}, m.statements()...)
	m.visible = m.visible[:visible]
	return n
}

func (m *maker) statements() []api.Node {
	var list []api.Node
	for range m.IntN(5) {
		if n := m.statement(); n.Kind > 0 {
			list = append(list, n)
		}
	}
	return list
}

// statement returns a statement, or the zero Node if the names that it needs are missing.
func (m *maker) statement() api.Node {
	m.left--
	ofType := pick(m, some)
	kind := api.NodeVar + m.IntN(8)
	if m.left < 0 {
		kind = api.NodeVar + m.IntN(4)
	}
	switch kind {
	case api.NodeVar, api.NodeLet:
		return m.declaration(kind, ofType)
	case api.NodeIf:
		return m.branch()
	case api.NodeFor, api.NodeWhile:
		return m.loop(kind, ofType)
	}
	wanted := map[int]int{api.NodeAssign: api.NodeVar, api.NodeStore: api.NodeArray, api.NodeSend: api.NodeOut}[kind]
	target, ok := m.find(wanted, api.Type{})
	if !ok {
		return api.Node{}
	}
	n := m.named(kind, target.name, api.Type{})
	if kind == api.NodeStore {
		n.Kids = append(n.Kids, m.index())
	}
	n.Kids = append(n.Kids, m.wanted(target.ofType))
	return n
}

func (m *maker) declaration(kind int, ofType api.Type) api.Node {
	n := m.node(kind, ofType)
	switch {
	case kind == api.NodeLet && m.IntN(2) == 0:
		m.free[n.Line] = true
		n.Kids = []api.Node{m.closed(ofType)}
	case kind == api.NodeLet || m.IntN(2) == 0:
		n.Kids = []api.Node{m.wanted(ofType)}
	}
	declared := map[int]int{api.NodeVar: api.NodeVar, api.NodeLet: api.NodeParam}[kind]
	name, ok := m.declare(declared, ofType)
	if !ok {
		return api.Node{}
	}
	n.Name = name
	return n
}

func (m *maker) branch() api.Node {
	n := m.node(api.NodeIf, api.Type{}, m.wanted(some[0]), m.block())
	switch m.left--; {
	case m.IntN(3) == 0:
		n.Kids = append(n.Kids, m.block())
	case m.left > 0 && m.IntN(2) == 0:
		n.Kids = append(n.Kids, m.branch())
	}
	return n
}

func (m *maker) loop(kind int, ofType api.Type) api.Node {
	n := m.node(kind, api.Type{})
	n.Pipeline, n.Unroll = pick(m, []int{0, 0, 1, 7, 256}), pick(m, []int{0, 0, 1, 2, 64})
	if kind == api.NodeWhile {
		n.Kids = []api.Node{m.wanted(some[0]), m.block()}
		return n
	}
	n.Type, n.Kids = ofType, []api.Node{m.wanted(ofType), m.wanted(ofType)}
	visible := len(m.visible)
	name, ok := m.declare(api.NodeParam, ofType)
	if !ok {
		return api.Node{}
	}
	n.Name = name
	n.Kids = append(n.Kids, m.block())
	m.visible = m.visible[:visible]
	return n
}

// wanted returns an expression that gets a type where that is wanted.
func (m *maker) wanted(ofType api.Type) api.Node {
	if m.IntN(4) == 0 {
		return m.open(ofType)
	}
	return m.closed(ofType)
}

// both returns two expressions of a type, of which at least one has it on its own.
func (m *maker) both(ofType api.Type) []api.Node {
	if m.IntN(2) == 0 {
		return []api.Node{m.wanted(ofType), m.closed(ofType)}
	}
	return []api.Node{m.closed(ofType), m.wanted(ofType)}
}

// open returns an open expression with the type that is wanted.
func (m *maker) open(ofType api.Type) api.Node {
	m.left--
	if m.left > 0 {
		switch m.IntN(8) {
		case 0, 1:
			return m.operation(api.NodeUnary, api.SrcNeg+m.IntN(2), ofType, m.open(ofType))
		case 2, 3:
			return m.operation(api.NodeBinary, api.SrcAdd+m.IntN(10), ofType, m.open(ofType), m.open(ofType))
		case 4:
			return m.node(api.NodeCond, ofType, m.wanted(some[0]), m.open(ofType), m.open(ofType))
		}
	}
	n := m.node(api.NodeNumber, ofType)
	n.Num = m.Uint64() >> (64 - ofType.Width) >> m.IntN(ofType.Width)
	m.free[n.Line] = true
	return n
}

func (m *maker) operation(kind, op int, ofType api.Type, kids ...api.Node) api.Node {
	n := m.node(kind, ofType, kids...)
	n.Op = op
	return n
}

// closed returns an expression that has a type on its own.
func (m *maker) closed(ofType api.Type) api.Node {
	m.left--
	choices := 10
	switch {
	case m.left < 0:
		choices = 4
	case ofType == some[0]:
		choices = 14
	}
	switch m.IntN(choices) {
	case 0, 1, 2:
		return m.leaf(ofType)
	case 3:
		return m.node(api.NodeCast, ofType, m.open(ofType))
	case 4:
		return m.node(api.NodeCast, ofType, m.closed(pick(m, some)))
	case 5:
		return m.operation(api.NodeUnary, api.SrcNeg+m.IntN(2), ofType, m.closed(ofType))
	case 6, 7:
		return m.operation(api.NodeBinary, api.SrcAdd+m.IntN(10), ofType, m.both(ofType)...)
	case 8:
		return m.node(api.NodeCond, ofType, append([]api.Node{m.wanted(some[0])}, m.both(ofType)...)...)
	case 9:
		return m.use(ofType)
	case 10:
		return m.operation(api.NodeUnary, api.SrcIsZero, ofType, m.wanted(some[0]))
	case 11:
		return m.operation(api.NodeBinary, api.SrcBoth+m.IntN(2), ofType, m.wanted(some[0]), m.wanted(some[0]))
	}
	return m.operation(api.NodeBinary, api.SrcEq+m.IntN(6), ofType, m.both(pick(m, some))...)
}

// leaf returns an expression that consists of a name or a number.
func (m *maker) leaf(ofType api.Type) api.Node {
	for _, kind := range []int{api.NodeVar, api.NodeParam, api.NodeIn} {
		if k, ok := m.find(kind, ofType); ok && m.IntN(3) > 0 {
			if kind == api.NodeIn {
				return m.named(api.NodeRecv, k.name, ofType)
			}
			return m.named(api.NodeName, k.name, ofType)
		}
	}
	n := m.node(api.NodeNumber, ofType)
	n.Num = uint64(m.IntN(2))
	if ofType != some[0] {
		m.free[n.Line] = true
		return m.node(api.NodeCast, ofType, n)
	}
	return n
}

// use returns an element of an array or a call, or a leaf if there is none.
func (m *maker) use(ofType api.Type) api.Node {
	if k, ok := m.find(api.NodeArray, ofType); ok {
		return m.named(api.NodeIndex, k.name, ofType, m.index())
	}
	for _, i := range m.Perm(len(m.functions)) {
		f := m.functions[i]
		if f.Type != ofType {
			continue
		}
		n := m.named(api.NodeCall, f.Name, ofType)
		for _, p := range f.Kids[:len(f.Kids)-1] {
			n.Kids = append(n.Kids, m.wanted(p.Type))
		}
		return n
	}
	return m.leaf(ofType)
}

func (m *maker) index() api.Node {
	if m.IntN(2) == 0 {
		return m.open(api.Type{Width: 32})
	}
	ofType := pick(m, some)
	ofType.Signed = false
	return m.closed(ofType)
}

// source returns a tree without the types that are not in its source; expressions have any other types instead, which mean nothing.
func (m *maker) source(n api.Node, free map[int]bool) api.Node {
	return changed(n, func(n *api.Node) {
		switch {
		case n.Kind == api.NodeLet && free[n.Line]:
			n.Type = api.Type{}
		case isExpr(*n) && n.Kind != api.NodeCast && (n.Type != some[0] || n.Kind != api.NodeNumber || free[n.Line]):
			n.Type = pick(m, []api.Type{{}, {}, {Width: 8}, {Width: -1}, {Width: 1, Signed: true}, {Signed: true}, {Width: 99}})
		}
	})
}

// samples goes through programs as sources have them, and the same ones with all types.
func samples(seed uint64, count int) iter.Seq2[api.Node, api.Node] {
	return func(yield func(api.Node, api.Node) bool) {
		m := &maker{Rand: rand.New(rand.NewPCG(5, seed))}
		for range count {
			typed, free := m.program()
			if !yield(m.source(typed, free), duplicate(typed)) {
				return
			}
		}
	}
}
