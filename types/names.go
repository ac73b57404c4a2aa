package types

import (
	"slices"

	"jacquard/api"
)

// Kinds of names.
const (
	scalar   = 1 + iota // it has a value, but it cannot be assigned
	variable            // a scalar that can be assigned
	array
	input
	output
)

// symbol is a name that is visible.
type symbol struct {
	name   string
	kind   int
	ofType api.Type // of the scalar, of an element, or of a word of the stream
}

// declare makes the name of a node visible, with the node's type.
func (c *checker) declare(n *api.Node, kind int) {
	require(c.find(n.Name) < 0, n, api.ErrName)
	c.names = append(c.names, symbol{n.Name, kind, n.Type})
}

// find returns the index of a visible name, or -1.
func (c *checker) find(name string) int {
	return slices.IndexFunc(c.names, func(s symbol) bool { return s.name == name })
}

// lookUp returns the type of the name of a node, which must be visible and of one of the kinds.
func (c *checker) lookUp(n *api.Node, kinds ...int) api.Type {
	i := c.find(n.Name)
	require(i >= 0 && slices.Contains(kinds, c.names[i].kind), n, api.ErrName)
	return c.names[i].ofType
}
