package interp_test

import (
	"fmt"
	"iter"
	"math/rand/v2"
	"slices"
	"strings"

	"jacquard/api"
	"jacquard/lexer"
)

var (
	names = []string{"a", "b", "c", "d", "e", "f", "g", "h", "i", "j", "l", "m", "n", "o", "p", "q"}
	u1    = api.Type{Width: 1}
)

// known is a name that a sample may use: its kind is NodeVar, or one of the kinds of parameters; NodeParam for all scalars that are no variables.
type known struct {
	name   string
	kind   int
	ofType api.Type
}

// function is a function that a sample may call.
type function struct {
	name   string
	params []api.Type
	result api.Type
}

// maker writes programs that break no rule at random.
type maker struct {
	*rand.Rand
	blocks    int        // how many more statements of the unit may have blocks
	parts     int        // how many more expressions of the statement may have parts
	loops     int        // around the statement that is being written
	types     []api.Type // of the program: few, so that expressions find names of their types
	functions []function
	visible   []known
}

func pick[T any](m *maker, list []T) T { return list[m.IntN(len(list))] }

func (m *maker) someType() api.Type { return pick(m, m.types) }

// word returns a word of a type, often a small one, or one near the greatest.
func (m *maker) word(t api.Type) uint64 {
	x := m.Uint64() >> m.IntN(64)
	if m.IntN(4) == 0 {
		x = ^(x % 4)
	}
	return x << (64 - t.Width) >> (64 - t.Width)
}

// find returns a visible name of one of the kinds that has a type, or any type with the zero one, if there is such a name.
func (m *maker) find(t api.Type, kinds ...int) (known, bool) {
	var list []known
	for _, k := range m.visible {
		if slices.Contains(kinds, k.kind) && (k.ofType == t || t == api.Type{}) {
			list = append(list, k)
		}
	}
	if len(list) == 0 {
		return known{}, false
	}
	return pick(m, list), true
}

// declare makes a name visible that is not, and returns it. Names of blocks that have ended come back soon.
func (m *maker) declare(kind int, t api.Type) string {
	for _, name := range names {
		if !slices.ContainsFunc(m.visible, func(k known) bool { return k.name == name }) {
			m.visible = append(m.visible, known{name, kind, t})
			return name
		}
	}
	name := fmt.Sprint("v", len(m.visible))
	m.visible = append(m.visible, known{name, kind, t})
	return name
}

// program returns the source of a program.
func (m *maker) program() string {
	m.functions, m.types = nil, []api.Type{u1}
	for range 3 {
		m.types = append(m.types, api.Type{Width: 1 + m.IntN(pick(m, []int{8, 64})), Signed: m.IntN(2) == 0})
	}
	var units []string
	for i := range m.IntN(4) {
		m.visible, m.blocks, m.loops = nil, m.IntN(4), 0
		f := function{name: fmt.Sprint("f", i), result: m.someType()}
		var params []string
		for range m.IntN(4) {
			t := m.someType()
			f.params = append(f.params, t)
			params = append(params, m.declare(api.NodeParam, t)+": "+lexer.TypeName(t))
		}
		units = append(units, "fn "+f.name+"("+strings.Join(params, ", ")+") -> "+lexer.TypeName(f.result)+m.body(f.result))
		m.functions = append(m.functions, f)
	}
	units = append(units, m.kernel())
	m.Shuffle(len(units), func(i, j int) { units[i], units[j] = units[j], units[i] })
	return strings.Join(units, "\n")
}

func (m *maker) kernel() string {
	m.visible, m.blocks, m.loops = nil, m.IntN(12), 0
	var params []string
	for range m.IntN(10) {
		t := m.someType()
		kind := api.NodeParam + m.IntN(4)
		s := m.declare(kind, t) + ": "
		switch kind {
		case api.NodeParam:
			s += lexer.TypeName(t)
		case api.NodeArray:
			s += lexer.TypeName(t) + pick(m, []string{"[1]", "[3]", "[4] cyclic 2", "[16] blocks 3", "[5] complete"})
		case api.NodeIn:
			s += "in " + lexer.TypeName(t)
		case api.NodeOut:
			s += "out " + lexer.TypeName(t)
		}
		params = append(params, s)
	}
	head := "kernel k(" + strings.Join(params, ", ") + ")"
	if m.IntN(2) == 0 {
		return head + m.body(api.Type{})
	}
	result := m.someType()
	return head + " -> " + lexer.TypeName(result) + m.body(result)
}

// body returns the block of a function, or of a kernel.
func (m *maker) body(result api.Type) string {
	s := m.statements(1 + m.IntN(6))
	m.parts = m.IntN(8)
	if result.Width > 0 {
		s += "return " + m.expr(result) + ";\n"
	}
	return " {\n" + s + "}"
}

// block returns a block, behind which its names are not visible any more.
func (m *maker) block() string {
	visible := len(m.visible)
	s := m.statements(m.IntN(4))
	m.visible = m.visible[:visible]
	return " {\n" + s + "}"
}

func (m *maker) statements(count int) string {
	var s strings.Builder
	for range count {
		s.WriteString(m.statement() + "\n")
	}
	return s.String()
}

func (m *maker) statement() string {
	m.parts = m.IntN(8)
	choice := m.IntN(16)
	if m.blocks <= 0 || m.loops > 2 {
		choice = m.IntN(9)
	}
	if target, ok := m.find(api.Type{}, api.NodeVar, api.NodeArray, api.NodeOut); ok && choice < 6 {
		return m.effect(target)
	}
	switch t := m.someType(); choice {
	case 9, 10:
		return m.branch()
	case 11, 12, 13:
		return m.count(t)
	case 14, 15:
		return m.repeat(t)
	case 8:
		value := m.expr(t)
		return "let " + m.declare(api.NodeParam, t) + ": " + lexer.TypeName(t) + " = " + value + ";"
	default:
		value := ""
		if m.IntN(2) == 0 {
			value = " = " + m.expr(t)
		}
		return "var " + m.declare(api.NodeVar, t) + ": " + lexer.TypeName(t) + value + ";"
	}
}

// effect returns a statement that changes a variable, an array or a stream.
func (m *maker) effect(target known) string {
	switch target.kind {
	case api.NodeArray:
		index := m.index()
		return target.name + "[" + index + "] = " + m.expr(target.ofType) + ";"
	case api.NodeOut:
		return "send " + target.name + "(" + m.expr(target.ofType) + ");"
	}
	return target.name + " = " + m.expr(target.ofType) + ";"
}

func (m *maker) branch() string {
	m.blocks--
	s := "if " + m.expr(u1) + m.block()
	switch {
	case m.IntN(3) == 0:
		return s + " else" + m.block()
	case m.blocks > 0 && m.IntN(2) == 0:
		return s + " else " + m.branch()
	}
	return s
}

// count returns a For, mostly one that does not go on for long.
func (m *maker) count(t api.Type) string {
	lower, upper := m.expr(t), m.expr(t)
	if m.IntN(3) > 0 && t.Width > 1 {
		half := uint64(1) << (t.Width - 1) // No word is greater, and -half is the least one.
		times := min(half, uint64(m.IntN(9)))
		x := m.word(t) % (half - times + 1)
		lower, upper = fmt.Sprint(x), fmt.Sprint(x+times)
		if t.Signed && m.IntN(2) == 0 {
			lower, upper = "-"+upper, "-"+lower
		}
	}
	return m.around(func() string {
		return "for " + m.declare(api.NodeParam, t) + ": " + lexer.TypeName(t) + " in " + lower + " .. " + upper + m.block()
	})
}

// repeat returns a While, mostly one with a counter.
func (m *maker) repeat(t api.Type) string {
	if m.IntN(3) == 0 {
		return m.around(func() string { return "while " + m.expr(u1) + m.block() })
	}
	counter := m.declare(api.NodeVar, t)
	m.visible[len(m.visible)-1].kind = api.NodeParam // so that nothing else changes it
	return fmt.Sprintf("var %s: %s = %d;\n", counter, lexer.TypeName(t), m.word(t)%9) + m.around(func() string {
		s := "while " + counter + pick(m, []string{" != 0", " != 0", " != 0 && " + m.expr(u1)}) + m.block()
		return strings.TrimSuffix(s, "}") + counter + " = " + counter + " - 1;\n}"
	})
}

// around writes a loop, with a directive or without one.
func (m *maker) around(loop func() string) string {
	visible := len(m.visible)
	m.loops++
	m.blocks--
	s := loop()
	m.loops--
	m.visible = m.visible[:visible]
	return pick(m, []string{"", "", "#pipeline 2 ", "#unroll ", "#unroll 3 #pipeline "}) + s
}

// expr returns an expression whose type is t where that is wanted.
func (m *maker) expr(t api.Type) string {
	m.parts--
	if m.parts < 0 || m.IntN(4) == 0 {
		return m.leaf(t)
	}
	if t == u1 && m.IntN(2) == 0 {
		return m.condition()
	}
	switch m.IntN(8) {
	case 0:
		return "(" + pick(m, []string{"-", "~"}) + m.expr(t) + ")"
	case 1:
		return "(" + m.expr(u1) + " ? " + m.expr(t) + " : " + m.expr(t) + ")"
	case 2:
		return "(" + m.closed(m.someType()) + " as " + lexer.TypeName(t) + ")"
	case 3, 4:
		return m.use(t)
	}
	return "(" + m.expr(t) + " " + pick(m, strings.Fields("+ - * / % & | ^ << >>")) + " " + m.expr(t) + ")"
}

func (m *maker) condition() string {
	switch m.IntN(4) {
	case 0:
		return "!" + m.expr(u1)
	case 1:
		return "(" + m.expr(u1) + pick(m, []string{" && ", " || "}) + m.expr(u1) + ")"
	}
	t := m.someType()
	return "(" + m.closed(t) + " " + pick(m, strings.Fields("== != < <= > >=")) + " " + m.expr(t) + ")"
}

// closed returns an expression that has the type t, whatever is wanted.
func (m *maker) closed(t api.Type) string { return "(" + m.expr(t) + " as " + lexer.TypeName(t) + ")" }

func (m *maker) leaf(t api.Type) string {
	if k, ok := m.find(t, api.NodeVar, api.NodeParam, api.NodeIn); ok && m.IntN(5) > 0 {
		if k.kind == api.NodeIn {
			return "recv(" + k.name + ")"
		}
		return k.name
	}
	if t == u1 {
		return pick(m, []string{"true", "false", "0", "1"})
	}
	return fmt.Sprint(m.word(t))
}

// use returns an element of an array, a call or a received word, or a leaf if there is none.
func (m *maker) use(t api.Type) string {
	if k, ok := m.find(t, api.NodeArray, api.NodeIn); ok && m.IntN(3) > 0 {
		if k.kind == api.NodeIn {
			return "recv(" + k.name + ")"
		}
		return k.name + "[" + m.index() + "]"
	}
	for _, i := range m.Perm(len(m.functions)) {
		f := m.functions[i]
		if f.result != t {
			continue
		}
		var args []string
		for _, p := range f.params {
			args = append(args, m.expr(p))
		}
		return f.name + "(" + strings.Join(args, ", ") + ")"
	}
	return m.leaf(t)
}

func (m *maker) index() string {
	if m.IntN(2) == 0 {
		return fmt.Sprint(m.IntN(6))
	}
	t := m.someType()
	t.Signed = false
	return m.closed(t)
}

// environment returns an environment that fits the kernel of a program.
func (m *maker) environment(program api.Node) api.Env {
	var env api.Env
	for _, p := range mainOf(program).Kids {
		words := func(count int) []uint64 {
			list := make([]uint64, count)
			for i := range list {
				list[i] = m.word(p.Type)
			}
			return list
		}
		switch p.Kind {
		case api.NodeParam:
			env.Scalars = append(env.Scalars, m.word(p.Type))
		case api.NodeArray:
			env.Arrays = append(env.Arrays, words(int(p.Num)))
		case api.NodeIn:
			env.Ins = append(env.Ins, words(pick(m, []int{0, 1, 2, 3, 5, 9, 20})))
		case api.NodeOut:
			env.Ins = append(env.Ins, nil)
		}
	}
	return env
}

// sample is a typed program with an environment that fits its kernel.
type sample struct {
	source  string
	program api.Node
	env     api.Env
}

// samples goes through programs with environments.
func samples(seed uint64, count int) iter.Seq2[*maker, sample] {
	return func(yield func(*maker, sample) bool) {
		m := &maker{Rand: rand.New(rand.NewPCG(6, seed))}
		for range count {
			source := m.program()
			program := mustType(source)
			if !yield(m, sample{source, program, m.environment(program)}) {
				return
			}
		}
	}
}
