package ir_test

import (
	"fmt"
	"math"
	"testing"

	"jacquard/api"
)

// three returns a function in which block 0 branches to the blocks 1 and 2; each block has two parameters of 8 bits, and defines a constant of 8 bits, one of 1 bit, and an undefined value of each width. The values of block b begin at 6 * b: the parameters, the constants, and the undefined ones.
func three() *maker {
	m := &maker{f: api.Func{Name: "f", Rets: []int{8}}}
	for b := range 3 {
		p := m.block(8, 8)
		x, cond := m.constant(8, 7), m.constant(1, 1)
		m.value(8)
		m.value(1)
		switch b {
		case 0:
			m.last().Term = branch(cond, edge(1, p[0], x), edge(2, p[1], p[1]))
		case 1:
			m.last().Term = jump(edge(2, p[0], p[1]))
		case 2:
			m.last().Term = ret(x)
		}
	}
	return m
}

// usableAtEnd reports whether a value can be used at the end of a block of three.
func usableAtEnd(v, b int) bool { return v >= 6*b && v < 6*b+4 }

// others are values of three, and numbers that are none.
func others() []int {
	list := []int{math.MinInt, -7, -1, 18, 19, 1 << 32, math.MaxInt}
	for v := range 18 {
		list = append(list, v)
	}
	return list
}

// P8.1, condition 4: definitions, as parameters and as results.
func TestValidDefinitions(t *testing.T) {
	checkValid(t, three().f, true, "three")
	for _, v := range others() {
		free := v >= 0 && v < 18 && v%6 >= 4
		for b := range 3 {
			f := three().f
			f.Blocks[b].Insts = append(f.Blocks[b].Insts, api.Inst{Op: api.OpConst, Dest: v})
			checkValid(t, f, free, fmt.Sprint("block ", b, " defines ", v))

			f = three().f
			f.Blocks[b].Params = append(f.Blocks[b].Params, v)
			// Edges have to pass another word.
			for from, other := range f.Blocks {
				for i, e := range other.Term.To {
					if e.Block == b {
						x := 6*from + 2
						if v >= 0 && v%6 == 5 {
							x++
						}
						f.Blocks[from].Term.To[i].Args = append(f.Blocks[from].Term.To[i].Args, x)
					}
				}
			}
			checkValid(t, f, free, fmt.Sprint("block ", b, " has the parameter ", v))
		}
	}
	f := three().f
	f.Blocks[0].Params = []int{4, 4}
	checkValid(t, f, false, "a parameter that stands twice")
}

// P8.1, condition 4: uses of all values in each block, ahead of their definitions and behind them.
func TestValidUses(t *testing.T) {
	for _, v := range others() {
		for b := range 3 {
			for at := range 3 {
				f := three().f
				insts := f.Blocks[b].Insts
				dest := len(f.Widths)
				f.Widths = append(f.Widths, 16)
				list := append([]api.Inst{}, insts[:at]...)
				list = append(list, api.Inst{Op: api.OpZExt, Dest: dest, Args: []int{v}})
				f.Blocks[b].Insts = append(list, insts[at:]...)
				want := v >= 6*b && v < 6*b+2+at
				checkValid(t, f, want, fmt.Sprint("block ", b, " uses ", v, " at ", at))
			}
		}
	}
	f := three().f
	f.Widths = append(f.Widths, 8)
	f.Blocks[0].Insts = append(f.Blocks[0].Insts, api.Inst{Op: api.OpAdd, Dest: 18, Args: []int{18, 18}})
	checkValid(t, f, false, "an instruction that uses its own result")
	f.Blocks[0].Insts[2].Args = []int{0, 2}
	checkValid(t, f, true, "an instruction that uses other values")
}

// P8.1, conditions 4 and 6: all values as conditions, returned words and words of edges.
func TestValidTerminatorUses(t *testing.T) {
	for _, v := range others() {
		narrow := v >= 0 && v%6 == 3
		f := three().f
		f.Blocks[0].Term.Cond = v
		checkValid(t, f, usableAtEnd(v, 0) && narrow, fmt.Sprint("Cond ", v))
		f = three().f
		f.Blocks[2].Term.Rets[0] = v
		checkValid(t, f, usableAtEnd(v, 2) && !narrow, fmt.Sprint("Rets ", v))
		for i := range 2 {
			for j := range 2 {
				f = three().f
				f.Blocks[0].Term.To[i].Args[j] = v
				checkValid(t, f, usableAtEnd(v, 0) && !narrow, fmt.Sprint("edge ", i, ", word ", j, ": ", v))
			}
		}
		f = three().f
		f.Blocks[1].Term.To[0].Args[1] = v
		checkValid(t, f, usableAtEnd(v, 1) && !narrow, fmt.Sprint("jump with ", v))
	}
}

// P8.1, condition 6: all kinds of terminators with all numbers of edges and returned words, with a condition and without.
func TestValidTerminators(t *testing.T) {
	for kind := -1; kind <= 5; kind++ {
		for edges := range 4 {
			for words := range 4 {
				for _, cond := range []int{-2, -1, 0, 3, 99} {
					for rets := range 3 {
						f := three().f
						f.Rets = []int{8, 8}[:rets]
						f.Blocks[2].Term = jump(edge(1, 12, 12))
						term := api.Term{Kind: kind, Cond: cond}
						for range edges {
							term.To = append(term.To, edge(1, 0, 1))
						}
						for range words {
							term.Rets = append(term.Rets, 2)
						}
						f.Blocks[0].Term = term
						want := false
						switch kind {
						case api.Jump:
							want = edges == 1 && cond == -1 && words == 0
						case api.Branch:
							want = edges == 2 && cond == 3 && words == 0
						case api.Return:
							want = edges == 0 && cond == -1 && words == rets
						}
						checkValid(t, f, want, fmt.Sprint(rets, term))
					}
				}
			}
		}
	}
}

// P8.1, condition 6: returned words of all widths, in their order.
func TestValidReturns(t *testing.T) {
	for _, a := range few {
		for _, b := range few {
			for _, c := range few {
				for _, d := range few {
					m := &maker{f: api.Func{Name: "f", Rets: []int{a, b}}}
					p := m.block(c, d)
					m.last().Term = ret(p...)
					checkValid(t, m.f, a == c && b == d, m.f.Widths)
				}
			}
		}
	}
}

// P8.1, condition 6: edges to all blocks and numbers that are none, with any number of words of any width.
func TestValidEdges(t *testing.T) {
	params := [][]int{{8, 1}, {}, {8}, {8, 1}, {1, 8}, {8, 1, 8}}
	for _, to := range []int{math.MinInt, -1, 0, 1, 2, 3, 4, 5, 6, 7, 1 << 32, math.MaxInt} {
		for _, args := range [][]int{{}, {0}, {1}, {0, 0}, {0, 1}, {1, 0}, {1, 1}, {0, 1, 0}, {0, 1, 1}, {0, 1, 0, 1}} {
			m := &maker{f: api.Func{Name: "f"}}
			for _, list := range params {
				m.block(list...)
				m.last().Term = ret()
			}
			want := false
			if to >= 1 && to <= 5 {
				want = fmt.Sprint(params[to]) == fmt.Sprint(widthsOf(m.f, args))
			}
			m.f.Blocks[0].Term = jump(edge(to, args...))
			checkValid(t, m.f, want, m.f.Blocks[0].Term)
			m.f.Blocks[0].Term = branch(1, edge(1), edge(to, args...))
			checkValid(t, m.f, want, m.f.Blocks[0].Term)
			m.f.Blocks[0].Term = branch(1, edge(to, args...), edge(1))
			checkValid(t, m.f, want, m.f.Blocks[0].Term)
		}
	}
}

// widthsOf returns the widths of some values.
func widthsOf(f api.Func, values []int) []int {
	list := []int{}
	for _, v := range values {
		list = append(list, f.Widths[v])
	}
	return list
}

// P8.1: blocks that are not reached have to be well formed as well.
func TestValidUnreachable(t *testing.T) {
	f := every()
	last := &f.Blocks[4]
	checkValid(t, f, true, "as it is")
	last.Term = jump(edge(0, 0, 1))
	checkValid(t, f, false, "an edge to block 0")
	last.Term = jump(edge(4, last.Params[0]))
	checkValid(t, f, true, "an edge to itself")
	last.Term = jump(edge(4, 0))
	checkValid(t, f, false, "a value of block 0")
	last.Term = api.Term{}
	checkValid(t, f, false, "no terminator")
}
