package types

import (
	"slices"

	"jacquard/api"
)

// noRecursion requires that no function of a program, all of whose calls are known, calls itself.
func (c *checker) noRecursion(program *api.Node) {
	circle := c.circles(program)
	for i := range program.Kids {
		n := &program.Kids[i]
		returns := func(called string) bool { return circle[called] == circle[n.Name] }
		require(!slices.ContainsFunc(c.calls[n.Name], returns), n, api.ErrRecursion)
	}
}

// circles returns, for each function and the kernel, the name of one member of its circle: two of them are in one circle if each calls the other one, directly or through others.
func (c *checker) circles(program *api.Node) map[string]string {
	callers := map[string][]string{}
	seen := map[string]bool{}
	var order []string
	var visit func(name string)
	visit = func(name string) {
		if seen[name] {
			return
		}
		seen[name] = true
		for _, called := range c.calls[name] {
			callers[called] = append(callers[called], name)
			visit(called)
		}
		order = append(order, name)
	}
	for _, n := range program.Kids {
		visit(n.Name)
	}
	circle := map[string]string{}
	var spread func(name, first string)
	spread = func(name, first string) {
		if circle[name] != "" {
			return
		}
		circle[name] = first
		for _, caller := range callers[name] {
			spread(caller, first)
		}
	}
	// From the end of the order on, what calls a member of a circle and has none yet is called by that circle as well.
	for _, name := range slices.Backward(order) {
		spread(name, name)
	}
	return circle
}
