package interp

import (
	"slices"

	"jacquard/api"
)

// stop is the panic of a run that cannot go on: the status with which it ends.
type stop int

// machine is a run: what all its frames share.
type machine struct {
	main      api.Node             // the kernel
	functions map[string]*api.Node // by their names
	number    map[string]int       // of each array among the arrays, and of each stream among the streams
	arrays    [][]uint64
	ins       [][]uint64 // the words that have not been received
	outs      [][]uint64
	fuel      int
}

// load returns the machine that is about to execute the kernel of a typed program in an environment that fits.
func load(n api.Node, env api.Env, fuel int) *machine {
	kernel, p := kernelOf(n)
	m := &machine{main: kernel, functions: map[string]*api.Node{}, number: map[string]int{}, fuel: fuel}
	for i, kid := range n.Kids {
		if kid.Kind == api.NodeFunction {
			m.functions[kid.Name] = &n.Kids[i]
		}
	}
	for i, array := range p.arrays {
		m.number[array.Name] = i
		m.arrays = append(m.arrays, slices.Clone(env.Arrays[i]))
	}
	for i, stream := range p.streams {
		m.number[stream.Name] = i
	}
	m.ins = slices.Clone(env.Ins)
	m.outs = make([][]uint64, len(p.streams))
	return m
}

// outcome returns what the run leaves if it ends now, but for the returned word.
func (m *machine) outcome(status int) api.Outcome {
	return api.Outcome{Status: status, Arrays: m.arrays, Outs: m.outs}
}

// kernel executes the kernel, and returns the word that it returns, if it has a result.
func (m *machine) kernel(scalars []uint64) []uint64 {
	result := m.call(&m.main, scalars)
	if m.main.Type.Width == 0 {
		return nil
	}
	return []uint64{result}
}

// call executes the block of a function or of the kernel with words for its scalar parameters, and returns the word of its Return.
func (m *machine) call(unit *api.Node, scalars []uint64) uint64 {
	f := frame{machine: m, scalars: map[string]uint64{}}
	last := len(unit.Kids) - 1
	for _, param := range unit.Kids[:last] {
		if param.Kind == api.NodeParam {
			f.scalars[param.Name] = scalars[0]
			scalars = scalars[1:]
		}
	}
	f.statement(&unit.Kids[last])
	return f.result
}

// pay takes the unit of fuel that is due.
func (m *machine) pay() {
	if m.fuel <= 0 {
		panic(stop(api.Fuel))
	}
	m.fuel--
}

// receive returns the next word of an input stream.
func (m *machine) receive(stream string) uint64 {
	list := &m.ins[m.number[stream]]
	if len(*list) == 0 {
		panic(stop(api.Starved))
	}
	x := (*list)[0]
	*list = (*list)[1:]
	return x
}

// send appends a word to an output stream.
func (m *machine) send(stream string, x uint64) {
	i := m.number[stream]
	m.outs[i] = append(m.outs[i], x)
}

// element returns where an element of an array is, and true; false if the index is out of bounds.
func (m *machine) element(array string, index uint64) (*uint64, bool) {
	list := m.arrays[m.number[array]]
	if index >= uint64(len(list)) {
		return nil, false
	}
	return &list[index], true
}
