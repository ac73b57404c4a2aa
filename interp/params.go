package interp

import (
	"slices"

	"jacquard/api"
	"jacquard/bits"
	"jacquard/types"
)

// params is the interface of a kernel: its parameters, divided by what an environment gives them.
type params struct{ scalars, arrays, streams []api.Node }

// kernelOf returns the kernel of a typed program, of which there is exactly one, and its interface.
func kernelOf(n api.Node) (api.Node, params) {
	kernel, _ := types.Kernel(n)
	var p params
	for _, kid := range kernel.Kids {
		switch kid.Kind {
		case api.NodeParam:
			p.scalars = append(p.scalars, kid)
		case api.NodeArray:
			p.arrays = append(p.arrays, kid)
		case api.NodeIn, api.NodeOut:
			p.streams = append(p.streams, kid)
		}
	}
	return kernel, p
}

// fits reports whether an environment gives each parameter as many words of its type as it needs.
func (p params) fits(env api.Env) bool {
	return slices.EqualFunc(p.scalars, env.Scalars, isWord) &&
		slices.EqualFunc(p.arrays, env.Arrays, func(n api.Node, list []uint64) bool {
			return uint64(len(list)) == n.Num && areWords(n, list)
		}) &&
		slices.EqualFunc(p.streams, env.Ins, func(n api.Node, list []uint64) bool {
			return (n.Kind == api.NodeIn || len(list) == 0) && areWords(n, list)
		})
}

// areWords reports whether all elements of a list are words of the type of a parameter.
func areWords(n api.Node, list []uint64) bool {
	return !slices.ContainsFunc(list, func(x uint64) bool { return !isWord(n, x) })
}

func isWord(n api.Node, x uint64) bool { return bits.Fit(n.Type.Width, x) == x }

// zero returns the environment in which all words are 0, and all streams are empty.
func (p params) zero() api.Env {
	env := api.Env{
		Scalars: make([]uint64, len(p.scalars)),
		Arrays:  make([][]uint64, len(p.arrays)),
		Ins:     make([][]uint64, len(p.streams)),
	}
	for i, n := range p.arrays {
		env.Arrays[i] = make([]uint64, n.Num)
	}
	return env
}
