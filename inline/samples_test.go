package inline_test

import (
	"fmt"
	"iter"
	"math/rand/v2"
	"slices"
	"strings"

	"jacquard/api"
)

// names are those of functions, parameters and declarations alike: few, so that functions and the kernel share them, and some that a compiler could think of as well.
var names = strings.Fields("a b c d e f g h i j k l m n v1 v2 v3 v4 v5 t0 t1 t2 x1 x2")

// wordType is a type of a sample, with the parameters of the kernel that have it: a scalar, an array, and streams.
type wordType struct {
	name                   string
	width                  int
	scalar, array, in, out string
}

var kinds = []wordType{{"u1", 1, "a", "d", "g", "j"}, {"u8", 8, "b", "e", "h", "v1"}, {"s5", 5, "c", "f", "i", "v3"}}

const (
	bit = iota // indexes of kinds
	byt
	sgn
)

// symbol is a scalar that is visible.
type symbol struct {
	name     string
	kind     int
	variable bool
}

// callee is a function that may be called.
type callee struct {
	name   string
	params []int
	result int
}

// maker writes sources of programs at random, with calls wherever an expression may stand.
type maker struct {
	*rand.Rand
	callees []callee
	visible []symbol
	kernel  bool // what is written belongs to the kernel
	loops   int  // around what is written
	blocks  int  // how many more blocks the unit may have
	parts   int  // how many more parts the expression may have
}

func (m *maker) chance(of int) bool { return m.IntN(of) == 0 }

func one[T any](m *maker, list ...T) T { return list[m.IntN(len(list))] }

// declare makes a name visible, and returns its declaration.
func (m *maker) declare(kind int, variable bool) string {
	name := one(m, names...)
	taken := m.kernel && slices.ContainsFunc(kinds, func(k wordType) bool { return slices.Contains([]string{k.array, k.in, k.out}, name) })
	if taken || slices.ContainsFunc(m.visible, func(s symbol) bool { return s.name == name }) {
		name = fmt.Sprint("w", len(m.visible))
	}
	m.visible = append(m.visible, symbol{name, kind, variable})
	return name + ": " + kinds[kind].name
}

// scalar returns a visible name with a type, if there is one.
func (m *maker) scalar(kind int, variable bool) (string, bool) {
	for _, i := range m.Perm(len(m.visible)) {
		if s := m.visible[i]; s.kind == kind && (s.variable || !variable) {
			return s.name, true
		}
	}
	return "", false
}

// program returns the source of a program. Each loop has a line of its own.
func (m *maker) program() string {
	m.callees, m.kernel = nil, false
	var units []string
	for _, i := range m.Perm(len(names))[:m.IntN(6)] {
		m.visible, m.loops, m.blocks = nil, 0, m.IntN(4)
		f := callee{name: names[i], result: m.IntN(3)}
		var params []string
		for range m.IntN(4) {
			kind := m.IntN(3)
			f.params = append(f.params, kind)
			params = append(params, m.declare(kind, false))
		}
		units = append(units, "fn "+f.name+"("+strings.Join(params, ", ")+") -> "+kinds[f.result].name+" {\n"+m.statements(m.IntN(4))+"return "+m.whole(f.result)+";\n}")
		m.callees = append(m.callees, f)
	}
	units = append(units, m.kernelUnit())
	m.Shuffle(len(units), func(i, j int) { units[i], units[j] = units[j], units[i] })
	return strings.Join(units, "\n")
}

func (m *maker) kernelUnit() string {
	m.visible, m.kernel, m.loops, m.blocks = nil, true, 0, m.IntN(8)
	var params []string
	for i, k := range kinds {
		m.visible = append(m.visible, symbol{k.scalar, i, false})
		params = append(params, fmt.Sprintf("%s: %s, %s: %s[%d], %s: in %s, %s: out %s", k.scalar, k.name, k.array, k.name, 2+i, k.in, k.name, k.out, k.name))
	}
	head := "kernel main(" + strings.Join(params, ", ") + ")"
	if m.chance(3) {
		return head + " {\n" + m.statements(1+m.IntN(8)) + "}"
	}
	kind := m.IntN(3)
	return head + " -> " + kinds[kind].name + " {\n" + m.statements(1+m.IntN(8)) + "return " + m.whole(kind) + ";\n}"
}

func (m *maker) statements(count int) string {
	var s strings.Builder
	for range count {
		s.WriteString(m.statement() + "\n")
	}
	return s.String()
}

func (m *maker) block(count int) string {
	visible := len(m.visible)
	s := m.statements(count)
	m.visible = m.visible[:visible]
	return " {\n" + s + "}"
}

func (m *maker) statement() string {
	kind := m.IntN(3)
	if m.blocks > 0 && m.loops < 3 && m.chance(2) {
		m.blocks--
		return one(m, m.branch, m.count, m.repeat, m.repeat)()
	}
	k := kinds[kind]
	switch choice := m.IntN(8); {
	case choice < 2 && m.kernel:
		index := m.index()
		return k.array + "[" + index + "] = " + m.whole(kind) + ";"
	case choice < 4 && m.kernel:
		return "send " + k.out + "(" + m.whole(kind) + ");"
	case choice < 6:
		if name, ok := m.scalar(kind, true); ok {
			return name + " = " + m.whole(kind) + ";"
		}
	}
	value := m.whole(kind)
	if m.chance(2) {
		return "let " + m.declare(kind, false) + " = " + value + ";"
	}
	if m.chance(4) {
		return "var " + m.declare(kind, true) + ";"
	}
	return "var " + m.declare(kind, true) + " = " + value + ";"
}

func (m *maker) branch() string {
	s := "if " + m.whole(bit) + m.block(m.IntN(3))
	for m.chance(2) {
		s += " else if " + m.whole(bit) + m.block(m.IntN(3))
	}
	if m.chance(2) {
		s += " else" + m.block(m.IntN(3))
	}
	return s
}

// inLoop writes a loop, with directives or without.
func (m *maker) inLoop(write func() string) string {
	visible := len(m.visible)
	m.loops++
	s := one(m, "", "", "#pipeline ", "#unroll 3 ", "#pipeline 7 #unroll ") + write()
	m.loops--
	m.visible = m.visible[:visible]
	return s
}

// count returns a For with few iterations.
func (m *maker) count() string {
	kind := byt + m.IntN(2)
	lower, upper := "("+m.whole(kind)+" & 1)", "("+m.whole(kind)+" & 3)"
	return m.inLoop(func() string {
		return "for " + m.declare(kind, false) + " in " + lower + " .. " + upper + m.block(m.IntN(4))
	})
}

// repeat returns a While with few iterations, or one that ends when its input does.
func (m *maker) repeat() string {
	if m.kernel && m.loops == 0 && m.chance(4) {
		return m.inLoop(func() string {
			return "while recv(h) " + one(m, "<", ">=", "!=") + " " + m.whole(byt) + " || " + m.whole(bit) + m.block(m.IntN(4))
		})
	}
	times := m.whole(byt)
	counter := "var " + m.declare(byt, false) + " = (" + times + " & 3);\n"
	name := m.visible[len(m.visible)-1].name
	return counter + m.inLoop(func() string {
		s := "while " + one(m, name+" > 0 && "+m.whole(bit), m.whole(bit)+" && "+name+" != 0") + m.block(m.IntN(4))
		return strings.TrimSuffix(s, "}") + name + " = " + name + " - 1;\n}"
	})
}

// whole returns an expression of some size whose type is a kind where that is wanted.
func (m *maker) whole(kind int) string {
	m.parts = m.IntN(10)
	return m.expr(kind)
}

func (m *maker) expr(kind int) string {
	m.parts--
	switch {
	case m.parts < 0:
		return m.leaf(kind)
	case m.chance(3):
		return m.call(kind)
	case kind == bit && m.chance(2):
		of := m.IntN(3)
		return "(" + m.closed(of) + one(m, " == ", " != ", " < ", " <= ", " > ", " >= ") + m.expr(of) + ")"
	}
	switch m.IntN(7) {
	case 0:
		return one(m, "-", "~") + m.expr(kind)
	case 1:
		return "(" + m.expr(bit) + " ? " + m.expr(kind) + " : " + m.expr(kind) + ")"
	case 2:
		return m.closed(m.IntN(3)) + " as " + kinds[kind].name
	}
	operators := []string{"+", "-", "*", "/", "%", "&", "|", "^", "<<", ">>"}
	if kind == bit {
		operators = append(operators, "&&", "||")
	}
	return "(" + m.expr(kind) + " " + one(m, operators...) + " " + m.expr(kind) + ")"
}

// closed returns an expression that has a type whatever is wanted.
func (m *maker) closed(kind int) string { return "(" + m.expr(kind) + " as " + kinds[kind].name + ")" }

func (m *maker) call(kind int) string {
	for _, i := range m.Perm(len(m.callees)) {
		f := m.callees[i]
		if f.result != kind {
			continue
		}
		var args []string
		for _, p := range f.params {
			args = append(args, m.expr(p))
		}
		return f.name + "(" + strings.Join(args, ", ") + ")"
	}
	return m.leaf(kind)
}

func (m *maker) index() string {
	if m.chance(2) {
		return fmt.Sprint(m.IntN(5))
	}
	return m.closed(m.IntN(2))
}

func (m *maker) leaf(kind int) string {
	k := kinds[kind]
	switch choice := m.IntN(8); {
	case choice < 2 && m.kernel:
		return "recv(" + k.in + ")"
	case choice < 3 && m.kernel:
		return k.array + "[" + m.index() + "]"
	case choice < 7:
		if name, ok := m.scalar(kind, false); ok {
			return name
		}
	}
	return fmt.Sprint(m.IntN(min(1<<k.width, 20)))
}

// environment returns one that fits the kernels of samples.
func (m *maker) environment() api.Env {
	var env api.Env
	for i, k := range kinds {
		words := func(count int) []uint64 {
			var list []uint64
			for range count {
				list = append(list, m.Uint64N(1<<k.width))
			}
			return list
		}
		env.Scalars = append(env.Scalars, words(1)...)
		env.Arrays = append(env.Arrays, words(2+i))
		env.Ins = append(env.Ins, words(one(m, 2, 5, 10, 20, 40)), nil)
	}
	return env
}

// samples goes through sources of programs, which are typed.
func samples(seed uint64, count int) iter.Seq2[*maker, string] {
	return func(yield func(*maker, string) bool) {
		m := &maker{Rand: rand.New(rand.NewPCG(7, seed))}
		for range count {
			if !yield(m, m.program()) {
				return
			}
		}
	}
}
