package interp_test

import (
	"math/big"
	"slices"

	"jacquard/api"
)

// The chapter once more, in another way: a program is translated to steps of a machine with a stack, and its names to slots of frames.

// state is what steps change.
type state struct {
	api.Outcome
	next     int
	stack    []*big.Int
	frames   [][]*big.Int
	back     []int // where each frame returns to
	env      api.Env
	received []int // of each stream
	waiting  int   // the stream that has no word, if the run is starved
	fuel     int
	used     int
}

func (s *state) push(n *big.Int) { s.stack = append(s.stack, n) }

func (s *state) pop() *big.Int {
	last := len(s.stack) - 1
	n := s.stack[last]
	s.stack = s.stack[:last]
	return n
}

// frame returns the slots of the function that is being executed.
func (s *state) frame() []*big.Int { return s.frames[len(s.frames)-1] }

func (s *state) pay() {
	if s.used == s.fuel {
		s.Status = api.Fuel
		return
	}
	s.used++
}

// place is where a name is: in a slot of the frame, or among the arrays or the streams.
type place struct {
	name   string
	index  int
	ofType api.Type
}

// translator makes the steps of a program.
type translator struct {
	steps   []func(*state)
	entries map[string]int
	slots   map[string]int // how many the frame of each function has
	unit    string
	visible []place
}

func (c *translator) step(f func(*state)) { c.steps = append(c.steps, f) }

// leap makes a step that goes to a place which is not known yet, if the condition holds; the function that it returns makes that place the end of the steps so far.
func (c *translator) leap(condition func(*state) bool) func() {
	target := 0
	c.step(func(s *state) {
		if condition(s) {
			s.next = target
		}
	})
	return func() { target = len(c.steps) }
}

func always(*state) bool { return true }

func isFalse(s *state) bool { return s.pop().Sign() == 0 }

func (c *translator) find(name string) place {
	i := slices.IndexFunc(c.visible, func(p place) bool { return p.name == name })
	return c.visible[i]
}

// declare returns a new slot for a name.
func (c *translator) declare(name string) int {
	slot := c.slots[c.unit]
	c.slots[c.unit]++
	c.visible = append(c.visible, place{name: name, index: slot})
	return slot
}

// assign makes a step that moves a value from the stack to a slot.
func (c *translator) assign(slot int) {
	c.step(func(s *state) { s.frame()[slot] = s.pop() })
}

// function translates a function or the kernel. The values of its scalar parameters are in its first slots, and it leaves its result on the stack.
func (c *translator) function(n api.Node) {
	c.unit, c.visible = n.Name, nil
	c.entries[n.Name] = len(c.steps)
	arrays, streams, last := 0, 0, len(n.Kids)-1
	for _, p := range n.Kids[:last] {
		switch p.Kind {
		case api.NodeParam:
			c.declare(p.Name)
		case api.NodeArray:
			c.visible = append(c.visible, place{p.Name, arrays, p.Type})
			arrays++
		default:
			c.visible = append(c.visible, place{p.Name, streams, p.Type})
			streams++
		}
	}
	c.statement(n.Kids[last])
	c.step(func(s *state) {
		last := len(s.back) - 1
		s.next, s.back, s.frames = s.back[last], s.back[:last], s.frames[:last]
	})
}

// enter makes a step that calls a function with as many values from the stack as it has scalar parameters.
func (c *translator) enter(name string, params int) {
	c.step(func(s *state) {
		frame := make([]*big.Int, c.slots[name])
		first := len(s.stack) - params
		copy(frame, s.stack[first:])
		s.stack = s.stack[:first]
		s.frames, s.back = append(s.frames, frame), append(s.back, s.next)
		s.next = c.entries[name]
	})
}

func (c *translator) statement(n api.Node) {
	if n.Kind != api.NodeBlock {
		c.step((*state).pay)
	}
	switch n.Kind {
	case api.NodeBlock:
		visible := len(c.visible)
		for _, kid := range n.Kids {
			c.statement(kid)
		}
		c.visible = c.visible[:visible]
	case api.NodeVar, api.NodeLet:
		if len(n.Kids) == 0 {
			c.step(func(s *state) { s.push(number(0)) })
		}
		c.exprs(n.Kids)
		c.assign(c.declare(n.Name))
	case api.NodeAssign:
		c.exprs(n.Kids)
		c.assign(c.find(n.Name).index)
	case api.NodeStore:
		c.exprs(n.Kids)
		c.store(c.find(n.Name))
	case api.NodeIf:
		c.branch(n)
	case api.NodeFor:
		c.count(n)
	case api.NodeWhile:
		c.repeat(n)
	case api.NodeSend:
		c.exprs(n.Kids)
		p := c.find(n.Name)
		c.step(func(s *state) { s.Outs[p.index] = append(s.Outs[p.index], wordOf(p.ofType, s.pop())) })
	case api.NodeReturn:
		c.exprs(n.Kids)
	}
}

func (c *translator) store(p place) {
	c.step(func(s *state) {
		x, index := s.pop(), s.pop()
		if list := s.Arrays[p.index]; index.Cmp(number(int64(len(list)))) < 0 {
			list[index.Int64()] = wordOf(p.ofType, x)
		}
	})
}

func (c *translator) branch(n api.Node) {
	c.exprs(n.Kids[:1])
	otherwise := c.leap(isFalse)
	c.statement(n.Kids[1])
	end := c.leap(always)
	otherwise()
	for _, kid := range n.Kids[2:] {
		c.statement(kid)
	}
	end()
}

func (c *translator) count(n api.Node) {
	visible := len(c.visible)
	c.exprs(n.Kids[:2])
	upper, slot := c.declare("upper bound"), c.declare(n.Name)
	c.assign(upper)
	c.assign(slot)
	start := len(c.steps)
	c.step((*state).pay)
	end := c.leap(func(s *state) bool { return s.frame()[slot].Cmp(s.frame()[upper]) >= 0 })
	c.statement(n.Kids[2])
	c.step(func(s *state) {
		s.frame()[slot] = new(big.Int).Add(s.frame()[slot], number(1))
		s.next = start
	})
	end()
	c.visible = c.visible[:visible]
}

func (c *translator) repeat(n api.Node) {
	start := len(c.steps)
	c.step((*state).pay)
	c.exprs(n.Kids[:1])
	end := c.leap(isFalse)
	c.statement(n.Kids[1])
	c.step(func(s *state) { s.next = start })
	end()
}

// exprs makes the steps that leave the values of expressions on the stack.
func (c *translator) exprs(list []api.Node) {
	for _, n := range list {
		c.exprs(n.Kids)
		c.expr(n)
	}
}

// expr makes the steps that take the values of an expression's Kids from the stack, and leave its own one there.
func (c *translator) expr(n api.Node) {
	switch n.Kind {
	case api.NodeNumber:
		c.step(func(s *state) { s.push(valueOf(n.Type, n.Num)) })
	case api.NodeName:
		slot := c.find(n.Name).index
		c.step(func(s *state) { s.push(s.frame()[slot]) })
	case api.NodeRecv:
		c.receive(c.find(n.Name))
	case api.NodeCall:
		c.enter(n.Name, len(n.Kids))
	case api.NodeIndex:
		c.load(c.find(n.Name))
	case api.NodeUnary:
		minuends := map[int]int64{api.SrcNeg: 0, api.SrcNot: -1, api.SrcIsZero: 1} // ~x is -1 - x.
		c.step(func(s *state) { s.push(wrapped(n.Type, new(big.Int).Sub(number(minuends[n.Op]), s.pop()))) })
	case api.NodeBinary:
		c.step(func(s *state) {
			b, a := s.pop(), s.pop()
			s.push(calculated(n.Op, n.Kids[0].Type, a, b))
		})
	case api.NodeCond:
		c.step(func(s *state) {
			no, yes := s.pop(), s.pop()
			if isFalse(s) {
				yes = no
			}
			s.push(yes)
		})
	case api.NodeCast:
		c.step(func(s *state) { s.push(wrapped(n.Type, s.pop())) })
	}
}

func (c *translator) receive(p place) {
	c.step(func(s *state) {
		i := s.received[p.index]
		if i == len(s.env.Ins[p.index]) {
			s.Status, s.waiting = api.Starved, p.index
			return
		}
		s.received[p.index]++
		s.push(valueOf(p.ofType, s.env.Ins[p.index][i]))
	})
}

func (c *translator) load(p place) {
	c.step(func(s *state) {
		list, index := s.Arrays[p.index], s.pop()
		if index.Cmp(number(int64(len(list)))) >= 0 {
			s.push(number(0))
			return
		}
		s.push(valueOf(p.ofType, list[index.Int64()]))
	})
}

// executed returns the state in which a run of a typed program ends.
func executed(program api.Node, env api.Env, fuel int) *state {
	c := &translator{entries: map[string]int{}, slots: map[string]int{}}
	main := program.Kids[slices.IndexFunc(program.Kids, func(n api.Node) bool { return n.Kind == api.NodeKernel })]
	c.enter(main.Name, len(env.Scalars))
	c.step(func(s *state) { s.Status = api.Done })
	for _, n := range program.Kids {
		c.function(n)
	}
	s := &state{env: env, fuel: max(fuel, 0), waiting: -1, received: make([]int, len(env.Ins))}
	s.Outs = make([][]uint64, len(env.Ins))
	for _, list := range env.Arrays {
		s.Arrays = append(s.Arrays, slices.Clone(list))
	}
	i := 0
	for _, p := range main.Kids {
		if p.Kind == api.NodeParam {
			s.push(valueOf(p.Type, env.Scalars[i]))
			i++
		}
	}
	for s.Status == 0 {
		s.next++
		c.steps[s.next-1](s)
	}
	if s.Status == api.Done && main.Type.Width > 0 {
		s.Rets = []uint64{wordOf(main.Type, s.pop())}
	}
	return s
}
