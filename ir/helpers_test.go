package ir_test

import (
	"fmt"
	"reflect"
	"slices"

	"jacquard/api"
)

// maker makes functions: values are numbered as they come, and instructions are appended to the last block.
type maker struct {
	f    api.Func
	here []int // the values that the last block can use
}

// value returns a new value that is not defined yet.
func (m *maker) value(width int) int {
	m.f.Widths = append(m.f.Widths, width)
	return len(m.f.Widths) - 1
}

// block appends a block with parameters of some widths.
func (m *maker) block(widths ...int) []int {
	m.here = nil
	for _, w := range widths {
		m.here = append(m.here, m.value(w))
	}
	m.f.Blocks = append(m.f.Blocks, api.Block{Params: slices.Clone(m.here)})
	return slices.Clone(m.here)
}

func (m *maker) last() *api.Block { return &m.f.Blocks[len(m.f.Blocks)-1] }

// add appends an instruction, with a result if it has a width, and returns its Dest.
func (m *maker) add(width int, in api.Inst) int {
	in.Dest = -1
	if width > 0 {
		in.Dest = m.value(width)
		m.here = append(m.here, in.Dest)
	}
	m.last().Insts = append(m.last().Insts, in)
	return in.Dest
}

func (m *maker) constant(width int, num uint64) int {
	return m.add(width, api.Inst{Op: api.OpConst, Num: num})
}

func (m *maker) op(op, width int, args ...int) int {
	return m.add(width, api.Inst{Op: op, Args: args})
}

func (m *maker) access(op, mem, width int, args ...int) int {
	return m.add(width, api.Inst{Op: op, Mem: mem, Args: args})
}

func edge(block int, args ...int) api.Edge { return api.Edge{Block: block, Args: args} }

func jump(e api.Edge) api.Term { return api.Term{Kind: api.Jump, Cond: -1, To: []api.Edge{e}} }

func branch(cond int, first, second api.Edge) api.Term {
	return api.Term{Kind: api.Branch, Cond: cond, To: []api.Edge{first, second}}
}

func ret(values ...int) api.Term { return api.Term{Kind: api.Return, Cond: -1, Rets: values} }

// every returns a well-formed function with every operator, partition and terminator, with directives, a self loop, undefined values and a block that is not reached.
func every() api.Func {
	m := &maker{f: api.Func{
		Name: "every",
		Arrays: []api.Array{
			{Name: "whole", Width: 16, Len: 10},
			{Name: "cyclic", Width: 8, Len: 4, Kind: api.Cyclic, Factor: 4},
			{Name: "blocks", Width: 1, Len: 3, Kind: api.Blocks, Factor: 2},
			{Name: "complete", Width: 64, Len: 5, Kind: api.Complete},
		},
		Streams: []api.Stream{{Name: "p", Width: 8}, {Name: "q", Width: 5, Out: true}},
		Rets:    []int{8, 5, 8},
	}}
	p := m.block(8, 8)
	for op := api.OpAdd; op <= api.OpAShr; op++ {
		p = append(p, m.op(op, 8, p[len(p)-1], p[len(p)-2]))
	}
	cond := m.op(api.OpEq, 1, p[2], p[3])
	m.value(9)
	m.last().Term = branch(cond, edge(2, p[4], cond), edge(1, p[5], p[6]))

	p = m.block(8, 8)
	one := m.constant(1, 1)
	for op := api.OpEq; op <= api.OpSLe; op++ {
		one = m.op(op, 1, one, one)
	}
	m.last().Term = jump(edge(2, p[0], one))

	everyLoop(m)

	m.block()
	x, y := m.constant(8, 200), m.constant(5, 31)
	m.last().Term = ret(x, y, x)
	m.block(3)
	m.last().Term = jump(edge(3))
	m.value(64)
	return m.f
}

// everyLoop appends block 2 of the function every.
func everyLoop(m *maker) {
	p := m.block(8, 1)
	wide := m.op(api.OpSExt, 16, p[0])
	wide = m.op(api.OpSelect, 16, p[1], wide, wide)
	wide = m.op(api.OpZExt, 64, wide)
	small := m.op(api.OpTrunc, 5, wide)
	word := m.access(api.OpLoad, 0, 16, small, p[1])
	m.access(api.OpStore, 0, 0, wide, word, p[1])
	word = m.access(api.OpRecv, 0, 8, p[1])
	m.access(api.OpSend, 1, 0, small, p[1])
	cond := m.access(api.OpLoad, 2, 1, p[0], p[1])
	m.last().Term = branch(cond, edge(3), edge(2, word, cond))
	m.last().Pipeline, m.last().Unroll, m.last().Line = 3, 2, 17
}

// rebuilt returns a copy in new memory, with nil in the places of empty lists. Lists go on to the end of their capacity if toEnd is true; they get spare capacity with something in it.
func rebuilt(v reflect.Value, toEnd bool, spare int) reflect.Value {
	result := reflect.New(v.Type()).Elem()
	switch v.Kind() {
	case reflect.Slice:
		if toEnd {
			v = v.Slice(0, v.Cap())
		}
		n := v.Len()
		if n+spare > 0 {
			result.Set(reflect.MakeSlice(v.Type(), n+spare, n+spare))
		}
		for i := range n {
			result.Index(i).Set(rebuilt(v.Index(i), toEnd, spare))
		}
		for i := range spare {
			stuff(result.Index(n + i))
		}
		result.Set(result.Slice(0, n))
	case reflect.Struct:
		for i := range v.NumField() {
			result.Field(i).Set(rebuilt(v.Field(i), toEnd, spare))
		}
	default:
		result.Set(v)
	}
	return result
}

// tidy returns a copy in new memory, with nil in the places of empty lists.
func tidy[E any](v E) E { return tidied(reflect.ValueOf(&v).Elem()).Interface().(E) }

func tidied(v reflect.Value) reflect.Value { return rebuilt(v, false, 0) }

// roomy returns a copy in which all lists have spare capacity with something in it.
func roomy[E any](v E) E { return rebuilt(reflect.ValueOf(&v).Elem(), false, 2).Interface().(E) }

// whole returns a copy in which all lists go on to the end of their capacity.
func whole[E any](v E) E { return rebuilt(reflect.ValueOf(&v).Elem(), true, 0).Interface().(E) }

// equal reports whether two values are equal, if empty lists are equal to nil.
func equal[E any](a, b E) bool { return reflect.DeepEqual(tidy(a), tidy(b)) }

// parts calls a function for all lists that a value consists of, and for all its numbers, texts and truths.
func parts(v reflect.Value, visit func(v reflect.Value)) {
	switch v.Kind() {
	case reflect.Slice:
		visit(v)
		for i := range v.Len() {
			parts(v.Index(i), visit)
		}
	case reflect.Struct:
		for i := range v.NumField() {
			parts(v.Field(i), visit)
		}
	default:
		visit(v)
	}
}

// fields returns all numbers, texts and truths that a value consists of.
func fields(v reflect.Value) []reflect.Value {
	var list []reflect.Value
	parts(v, func(v reflect.Value) {
		if v.Kind() != reflect.Slice {
			list = append(list, v)
		}
	})
	return list
}

// lists returns all lists that a value consists of.
func lists(v reflect.Value) []reflect.Value {
	var list []reflect.Value
	parts(v, func(v reflect.Value) {
		if v.Kind() == reflect.Slice {
			list = append(list, v)
		}
	})
	return list
}

// inside returns what reflection needs in order to change a function.
func inside(f *api.Func) reflect.Value { return reflect.ValueOf(f).Elem() }

// shown writes a function for messages.
func shown(f api.Func) string { return fmt.Sprintf("%.3000s", fmt.Sprintf("%+v", f)) }
