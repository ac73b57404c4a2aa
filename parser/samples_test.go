package parser_test

import (
	"fmt"
	"iter"
	"math/rand/v2"
	"strings"

	"jacquard/api"
)

// full has every rule of the grammar, and every alternative of each.
const full = `// Everything.
fn none() -> u1 { }
fn twice(x: u8, y: bool) -> s8 { return x * 2; }

kernel sum(n: u16, a: s32[64] cyclic 4, b: bool[0x10] blocks 2, c: u1[8] complete, d: u64[0], q: in u8, r: out s8) -> u64 {
	var total: u64 = 0b0;
	var rest: s7;
	let y = recv(q) as u64; // one word
	let z: u8 = none() | twice(y, false);
	# pipeline 1 # unroll 2
	for i: u16 in -1 .. n { total = (total + (y << 3)) ^ ~y; a[i] = -(total as s32 % 7) / 3; }
	# unroll
	# pipeline
	while !(total >= 1 && total <= 5 || (total != 4) == true) { total = (total > 3) ? total >> 1 : total - 1; }
	# pipeline 7
	for j: s3 in a[0] .. 2 & 3 { }
	# unroll 64
	while n < 2 { send r(twice(1, a[(n)]) as s8 & 3 | 4); }
	while 0 { if a { } }
	if false { } else { total = 007; }
	if n == 1 { } else if n > 2 { if n { } else { } } else if (n) { }
	return a ? b ? c : d : (e ? f : g) ? h : i;
}

kernel empty() { }
// The end.`

// Names, types and numbers of samples.
var (
	names   = []string{"a", "b", "x1", "_", "If", "pipeline", "unroll", "u0", "u65", "u08", strings.Repeat("n", 64)}
	types   = []api.Type{{Width: 1}, {Width: 1, Signed: true}, {Width: 8}, {Width: 7, Signed: true}, {Width: 64}, {Width: 64, Signed: true}}
	numbers = []uint64{0, 1, 2, 255, 1048576, 1048577, 999999999999, 1000000000000, 1<<63 - 1, 1<<64 - 1}
	sizes   = []int{0, 1, 2, 3, 64, 4096, 1048575, 1048576}
)

// maker makes trees of programs at random, without lines.
type maker struct {
	*rand.Rand
	left int // how many nodes more may have Kids of their own
}

func pick[T any](m *maker, list []T) T { return list[m.IntN(len(list))] }

// kids returns up to five nodes.
func (m *maker) kids(item func() api.Node) []api.Node {
	var list []api.Node
	for range m.IntN(6) {
		list = append(list, item())
	}
	return list
}

func (m *maker) program() api.Node {
	m.left = m.IntN(100)
	return api.Node{Kind: api.NodeProgram, Kids: m.kids(m.unit)}
}

func (m *maker) unit() api.Node {
	n := api.Node{Kind: api.NodeFunction, Name: pick(m, names), Type: pick(m, types)}
	if m.IntN(3) > 0 {
		n.Kids = append(m.kids(m.scalar), m.block())
		return n
	}
	n.Kind = api.NodeKernel
	n.Kids = append(m.kids(m.param), m.block())
	if m.IntN(2) == 0 {
		n.Type = api.Type{}
	}
	return n
}

func (m *maker) scalar() api.Node {
	return api.Node{Kind: api.NodeParam, Name: pick(m, names), Type: pick(m, types)}
}

func (m *maker) param() api.Node {
	n := m.scalar()
	n.Kind = pick(m, []int{api.NodeParam, api.NodeIn, api.NodeOut, api.NodeArray, api.NodeArray})
	if n.Kind != api.NodeArray {
		return n
	}
	n.Num = uint64(pick(m, sizes))
	n.Op = m.IntN(4)
	if n.Op == api.Cyclic || n.Op == api.Blocks {
		n.Factor = pick(m, sizes)
	}
	return n
}

func (m *maker) block() api.Node {
	return api.Node{Kind: api.NodeBlock, Kids: m.kids(m.statement)}
}

func (m *maker) statement() api.Node {
	n := api.Node{Kind: api.NodeVar + m.IntN(9)}
	m.left--
	if m.left < 0 && n.Kind > api.NodeStore {
		n.Kind = api.NodeReturn
	}
	if n.Kind <= api.NodeStore || n.Kind == api.NodeFor || n.Kind == api.NodeSend {
		n.Name = pick(m, names)
	}
	if n.Kind == api.NodeVar || n.Kind == api.NodeLet && m.IntN(2) == 0 || n.Kind == api.NodeFor {
		n.Type = pick(m, types)
	}
	if n.Kind != api.NodeVar || m.IntN(2) == 0 {
		n.Kids = append(n.Kids, m.expr())
	}
	switch n.Kind {
	case api.NodeStore:
		n.Kids = append(n.Kids, m.expr())
	case api.NodeIf:
		n.Kids = append(n.Kids, m.block())
		n.Kids = append(n.Kids, m.otherwise()...)
	case api.NodeFor:
		n.Kids = append(n.Kids, m.expr(), m.block())
		n.Pipeline, n.Unroll = pick(m, sizes), pick(m, sizes)
	case api.NodeWhile:
		n.Kids = append(n.Kids, m.block())
		n.Pipeline, n.Unroll = pick(m, sizes), pick(m, sizes)
	}
	return n
}

// otherwise returns what may stand behind the block of an if: nothing, a block, or an if.
func (m *maker) otherwise() []api.Node {
	switch m.left--; {
	case m.left < 0 || m.IntN(3) == 0:
		return nil
	case m.IntN(2) == 0:
		return []api.Node{m.block()}
	}
	return []api.Node{{Kind: api.NodeIf, Kids: append([]api.Node{m.expr(), m.block()}, m.otherwise()...)}}
}

func (m *maker) expr() api.Node {
	n := api.Node{Kind: api.NodeNumber + m.IntN(9)}
	m.left--
	if m.left < 0 {
		n.Kind = pick(m, []int{api.NodeNumber, api.NodeName, api.NodeRecv})
	}
	size := 0
	switch n.Kind {
	case api.NodeNumber:
		n.Num = pick(m, numbers)
		if n.Num <= 1 && m.IntN(2) == 0 {
			n.Type = api.Type{Width: 1}
		}
	case api.NodeName, api.NodeRecv:
		n.Name = pick(m, names)
	case api.NodeIndex:
		n.Name, size = pick(m, names), 1
	case api.NodeUnary:
		n.Op, size = api.SrcNeg+m.IntN(3), 1
	case api.NodeBinary:
		n.Op, size = api.SrcAdd+m.IntN(18), 2
	case api.NodeCond:
		size = 3
	case api.NodeCast:
		n.Type, size = pick(m, types), 1
	case api.NodeCall:
		n.Name, n.Kids = pick(m, names), m.kids(m.expr)
	}
	for range size {
		n.Kids = append(n.Kids, m.expr())
	}
	return n
}

// trees goes through trees of programs, without lines.
func trees(count int) iter.Seq[api.Node] {
	return func(yield func(api.Node) bool) {
		m := &maker{Rand: rand.New(rand.NewPCG(4, 1))}
		for range count {
			if !yield(m.program()) {
				return
			}
		}
	}
}

// walk goes through the nodes of a tree.
func walk(n *api.Node) iter.Seq[*api.Node] {
	return func(yield func(*api.Node) bool) {
		var visit func(n *api.Node) bool
		visit = func(n *api.Node) bool {
			if !yield(n) {
				return false
			}
			for i := range n.Kids {
				if !visit(&n.Kids[i]) {
					return false
				}
			}
			return true
		}
		visit(n)
	}
}

// copied returns a copy of a tree.
func copied(n api.Node) api.Node {
	kids := n.Kids
	n.Kids = nil
	for _, kid := range kids {
		n.Kids = append(n.Kids, copied(kid))
	}
	return n
}

// bared returns what Bare has to return, with nil for empty Kids.
func bared(n api.Node) api.Node {
	n = copied(n)
	for part := range walk(&n) {
		part.Line = 0
		switch {
		case part.Kind < api.NodeNumber || part.Kind > api.NodeRecv || part.Kind == api.NodeCast:
		case part.Kind == api.NodeNumber && part.Type == api.Type{Width: 1}:
		default:
			part.Type = api.Type{}
		}
	}
	return n
}

// shown writes a tree for messages.
func shown(n api.Node) string { return fmt.Sprintf("%.2000s", fmt.Sprint(n)) }
