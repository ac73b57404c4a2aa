package ir_test

import (
	"iter"
	"math/rand/v2"
	"slices"

	"jacquard/api"
)

// source makes functions that are well formed.
type source struct {
	*rand.Rand
	maker
}

// widths are those of the values of the functions. There are few, so that values fit together.
var widths = []int{1, 1, 8, 8, 3, 64}

func pick[E any](r *rand.Rand, list []E) E { return list[r.IntN(len(list))] }

// use returns a value of a width that the last block can use.
func (s *source) use(width int) int {
	var list []int
	for _, v := range s.here {
		if s.f.Widths[v] == width {
			list = append(list, v)
		}
	}
	if len(list) == 0 || s.IntN(6) == 0 {
		return s.constant(width, s.Uint64()>>(64-width))
	}
	return pick(s.Rand, list)
}

// step appends an instruction, if the operator fits the arrays, streams and widths.
func (s *source) step(op int) {
	w := pick(s.Rand, widths)
	switch op {
	case api.OpConst:
		s.use(w)
	case api.OpSelect:
		s.op(op, w, s.use(1), s.use(w), s.use(w))
	case api.OpZExt, api.OpSExt:
		s.op(op, 64, s.use(pick(s.Rand, widths[:5])))
	case api.OpTrunc:
		s.op(op, 1, s.use(pick(s.Rand, widths[2:])))
	case api.OpLoad, api.OpStore:
		if mem := s.IntN(len(s.f.Arrays) + 1); mem < len(s.f.Arrays) {
			s.arrayStep(op, mem, s.use(w))
		}
	case api.OpRecv, api.OpSend:
		mem := slices.IndexFunc(s.f.Streams, func(x api.Stream) bool { return x.Out == (op == api.OpSend) })
		if mem >= 0 {
			s.streamStep(mem)
		}
	default:
		result := w
		if op >= api.OpEq {
			result = 1
		}
		s.op(op, result, s.use(w), s.use(w))
	}
}

func (s *source) arrayStep(op, mem, index int) {
	w := s.f.Arrays[mem].Width
	if op == api.OpLoad {
		s.access(op, mem, w, index, s.use(1))
	} else {
		s.access(op, mem, 0, index, s.use(w), s.use(1))
	}
}

func (s *source) streamStep(mem int) {
	x := s.f.Streams[mem]
	if x.Out {
		s.access(api.OpSend, mem, 0, s.use(x.Width), s.use(1))
	} else {
		s.access(api.OpRecv, mem, x.Width, s.use(1))
	}
}

// memories appends arrays and streams of all kinds.
func (s *source) memories() {
	for i := range s.IntN(4) {
		a := api.Array{Name: "a" + string(rune('0'+i)), Width: pick(s.Rand, widths), Len: 1 + s.IntN(20), Kind: s.IntN(4)}
		if a.Kind == api.Cyclic || a.Kind == api.Blocks {
			a.Factor = 1 + s.IntN(a.Len)
		}
		s.f.Arrays = append(s.f.Arrays, a)
	}
	for i := range s.IntN(4) {
		s.f.Streams = append(s.f.Streams, api.Stream{Name: "s" + string(rune('0'+i)), Width: pick(s.Rand, widths), Out: s.IntN(2) > 0})
	}
}

// to returns an edge to some block, if params has the widths of the parameters of all blocks.
func (s *source) to(params [][]int) api.Edge {
	b := 1 + s.IntN(len(params)-1)
	e := api.Edge{Block: b}
	for _, w := range params[b] {
		e.Args = append(e.Args, s.use(w))
	}
	return e
}

func (s *source) term(params [][]int) api.Term {
	kind := pick(s.Rand, []int{api.Jump, api.Branch, api.Branch, api.Branch, api.Return})
	switch {
	case kind == api.Return || len(params) == 1:
		var values []int
		for _, w := range s.f.Rets {
			values = append(values, s.use(w))
		}
		return ret(values...)
	case kind == api.Jump:
		return jump(s.to(params))
	}
	return branch(s.use(1), s.to(params), s.to(params))
}

// random returns a well-formed function.
func random(r *rand.Rand) api.Func {
	s := &source{Rand: r}
	s.f.Name = "f"
	s.memories()
	for range r.IntN(3) {
		s.f.Rets = append(s.f.Rets, pick(r, widths))
	}
	params := make([][]int, 1+r.IntN(7))
	for b := range params {
		for range r.IntN(4) {
			params[b] = append(params[b], pick(r, widths))
		}
	}
	for b := range params {
		s.block(params[b]...)
		for range r.IntN(6) {
			s.step(api.OpConst + r.IntN(api.OpSend))
		}
		s.last().Term = s.term(params)
		if r.IntN(2) > 0 {
			s.last().Pipeline, s.last().Unroll, s.last().Line = r.IntN(4), r.IntN(4), r.IntN(100)
		}
	}
	return shuffled(r, s.f)
}

// shuffled returns the same function with other numbers of blocks (other than block 0) and of values, and with other undefined values.
func shuffled(r *rand.Rand, f api.Func) api.Func {
	f = tidy(f)
	blocks := append([]int{0}, r.Perm(len(f.Blocks)-1)...)
	for i := range blocks[1:] {
		blocks[i+1]++
	}
	values := r.Perm(len(f.Widths) + r.IntN(4))
	old := f
	f.Widths = slices.Repeat([]int{pick(r, widths)}, len(values))
	for v, w := range old.Widths {
		f.Widths[values[v]] = w
	}
	f.Blocks = make([]api.Block, len(old.Blocks))
	for b, block := range old.Blocks {
		f.Blocks[blocks[b]] = renamed(block, func(b int) int { return blocks[b] }, func(v int) int {
			if v < 0 {
				return v
			}
			return values[v]
		})
	}
	return f
}

// renamed changes the numbers of blocks and values in a block.
func renamed(b api.Block, block, value func(n int) int) api.Block {
	change := func(list []int) {
		for i, v := range list {
			list[i] = value(v)
		}
	}
	change(b.Params)
	for i := range b.Insts {
		b.Insts[i].Dest = value(b.Insts[i].Dest)
		change(b.Insts[i].Args)
	}
	b.Term.Cond = value(b.Term.Cond)
	for i := range b.Term.To {
		b.Term.To[i].Block = block(b.Term.To[i].Block)
		change(b.Term.To[i].Args)
	}
	change(b.Term.Rets)
	return b
}

// samples are well-formed functions: every, and random ones.
func samples(seed uint64, count int) iter.Seq2[*rand.Rand, api.Func] {
	r := rand.New(rand.NewPCG(8, seed))
	return func(yield func(*rand.Rand, api.Func) bool) {
		if !yield(r, every()) {
			return
		}
		for range count {
			if !yield(r, random(r)) {
				return
			}
		}
	}
}

// graphs are functions with up to four blocks for all graphs that terminators make. Block b defines a value of the width b + 2, and is block b of the line b + 1.
func graphs() iter.Seq[api.Func] {
	return func(yield func(api.Func) bool) {
		for n := 1; n <= 4; n++ {
			kinds := 1 + (n - 1) + (n-1)*(n-1)
			total := 1
			for range n {
				total *= kinds
			}
			for code := range total {
				if !yield(graph(n, kinds, code)) {
					return
				}
			}
		}
	}
}

func graph(n, kinds, code int) api.Func {
	m := &maker{f: api.Func{Name: "graph"}}
	for b := range n {
		m.block()
		cond := m.constant(1, 1)
		m.constant(b+2, 3)
		m.last().Line = b + 1
		k := code % kinds
		code /= kinds
		switch {
		case k == 0:
			m.last().Term = ret()
		case k < n:
			m.last().Term = jump(edge(k))
		default:
			m.last().Term = branch(cond, edge(1+(k-n)/(n-1)), edge(1+(k-n)%(n-1)))
		}
	}
	return m.f
}

// nonsense returns a function that is hardly ever well formed.
func nonsense(r *rand.Rand) api.Func {
	f := random(r)
	for range 1 + r.IntN(12) {
		mutate(r, &f)
	}
	return f
}
