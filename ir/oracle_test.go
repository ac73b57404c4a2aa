package ir_test

import (
	"math"
	"math/rand/v2"
	"reflect"
	"regexp"
	"slices"
	"strings"

	"jacquard/api"
	"jacquard/bits"
)

// The rows of the chapter's table: the names of the operators, the widths of the operands, and that of the result. w is the width of the result, a any width that is the same each time, * any width, m the width of the array or stream, < and > are less and greater than w, and - stands for no result.
const table = `
const                                               : none   : w
add sub mul udiv urem sdiv srem and or xor shl lshr ashr : w w : w
eq ne ult ule slt sle                               : a a    : 1
select                                              : 1 w w  : w
zext sext                                           : <      : w
trunc                                               : >      : w
load                                                : * 1    : m
store                                               : * m 1  : -
recv                                                : 1      : m
send                                                : m 1    : -
`

// row is a row of the table.
type row struct {
	args   []string
	result string
}

// rows has the row of each operator.
var rows = func() map[int]row {
	list := map[int]row{}
	for _, line := range strings.Split(strings.TrimSpace(table), "\n") {
		parts := strings.Split(line, ":")
		args := strings.Fields(strings.TrimPrefix(strings.TrimSpace(parts[1]), "none"))
		for _, name := range strings.Fields(parts[0]) {
			list[bits.Find(name)] = row{args, strings.TrimSpace(parts[2])}
		}
	}
	return list
}()

var identifier = regexp.MustCompile(`^[A-Za-z_][A-Za-z0-9_]{0,63}$`)

// place says where a value is defined or used: at a parameter (-1), an instruction, or the terminator.
type place struct{ block, index int }

// reader decides whether a function is well formed, rule by rule.
type reader struct {
	f    api.Func
	defs map[int][]place
}

func wellFormed(f api.Func) bool {
	x := &reader{f: f, defs: map[int][]place{}}
	return x.names() && x.counts() && x.widths() && x.arrays() && x.definitions() && x.blocks()
}

func (x *reader) names() bool {
	names := map[string]bool{}
	for _, a := range x.f.Arrays {
		names[a.Name] = true
	}
	for _, s := range x.f.Streams {
		names[s.Name] = true
	}
	for name := range names {
		if !identifier.MatchString(name) {
			return false
		}
	}
	return identifier.MatchString(x.f.Name) && len(names) == len(x.f.Arrays)+len(x.f.Streams)
}

func (x *reader) counts() bool {
	for _, b := range x.f.Blocks {
		if len(b.Insts) > 4096 || b.Pipeline < 0 || b.Pipeline > 256 || b.Unroll < 0 || b.Unroll > 64 || b.Line < 0 || b.Line > math.MaxInt32 {
			return false
		}
	}
	return len(x.f.Widths) <= 65536 && max(len(x.f.Arrays), len(x.f.Streams), len(x.f.Rets)) <= 64 && len(x.f.Blocks) <= 1024 && len(x.f.Blocks) > 0
}

func (x *reader) widths() bool {
	list := slices.Concat(x.f.Widths, x.f.Rets)
	for _, a := range x.f.Arrays {
		list = append(list, a.Width)
	}
	for _, s := range x.f.Streams {
		list = append(list, s.Width)
	}
	return len(list) == 0 || slices.Min(list) >= 1 && slices.Max(list) <= 64
}

func (x *reader) arrays() bool {
	for _, a := range x.f.Arrays {
		divided := a.Kind == api.Cyclic || a.Kind == api.Blocks
		switch {
		case a.Len < 1 || a.Len > 4096 || a.Kind < api.Whole || a.Kind > api.Complete:
			return false
		case divided && (a.Factor < 1 || a.Factor > a.Len || a.Factor > 64):
			return false
		case !divided && a.Factor != 0 || a.Kind == api.Complete && a.Len > 64:
			return false
		}
	}
	return true
}

// definitions finds all definitions.
func (x *reader) definitions() bool {
	for b, block := range x.f.Blocks {
		for _, v := range block.Params {
			x.defs[v] = append(x.defs[v], place{b, -1})
		}
		for i, in := range block.Insts {
			if rows[in.Op].result != "-" {
				x.defs[in.Dest] = append(x.defs[in.Dest], place{b, i})
			}
		}
	}
	for v, places := range x.defs {
		if v < 0 || v >= len(x.f.Widths) || len(places) > 1 {
			return false
		}
	}
	return true
}

// usable reports whether a value can be used at a place.
func (x *reader) usable(v int, at place) bool {
	return len(x.defs[v]) == 1 && x.defs[v][0].block == at.block && x.defs[v][0].index < at.index
}

func (x *reader) blocks() bool {
	for b, block := range x.f.Blocks {
		for i, in := range block.Insts {
			if !x.inst(in, place{b, i}) {
				return false
			}
		}
		if !x.term(block.Term, place{b, len(block.Insts)}) {
			return false
		}
	}
	return true
}

// memory returns the width of what an instruction accesses, 0 if that does not exist.
func (x *reader) memory(in api.Inst) int {
	switch in.Op {
	case api.OpLoad, api.OpStore:
		if in.Mem >= 0 && in.Mem < len(x.f.Arrays) {
			return x.f.Arrays[in.Mem].Width
		}
	case api.OpRecv, api.OpSend:
		if in.Mem >= 0 && in.Mem < len(x.f.Streams) && x.f.Streams[in.Mem].Out == (in.Op == api.OpSend) {
			return x.f.Streams[in.Mem].Width
		}
	}
	return 0
}

func (x *reader) inst(in api.Inst, at place) bool {
	args, result := rows[in.Op].args, rows[in.Op].result
	if result == "" || len(args) != len(in.Args) {
		return false
	}
	for _, v := range in.Args {
		if !x.usable(v, at) {
			return false
		}
	}
	m, w := x.memory(in), 0
	accesses := strings.ContainsAny(strings.Join(args, "")+result, "m")
	if accesses && m == 0 || !accesses && in.Mem != 0 || in.Op != api.OpConst && in.Num != 0 {
		return false
	}
	if result == "-" {
		if in.Dest != -1 {
			return false
		}
	} else {
		w = x.f.Widths[in.Dest]
	}
	if in.Op == api.OpConst && w < 64 && in.Num >= 1<<w {
		return false
	}
	for i, v := range in.Args {
		if !fits(args[i], x.f.Widths[v], w, x.f.Widths[in.Args[0]], m) {
			return false
		}
	}
	return result == "-" || fits(result, w, w, 0, m)
}

// fits reports whether a width is what a letter of the table demands.
func fits(letter string, width, w, a, m int) bool {
	switch letter {
	case "1":
		return width == 1
	case "w":
		return width == w
	case "a":
		return width == a
	case "m":
		return width == m
	case "<":
		return width < w
	case ">":
		return width > w
	}
	return letter == "*"
}

func (x *reader) term(t api.Term, at place) bool {
	for _, v := range t.Rets {
		if !x.usable(v, at) {
			return false
		}
	}
	branches := t.Kind == api.Branch && x.usable(t.Cond, at) && x.f.Widths[t.Cond] == 1
	if !branches && t.Cond != -1 {
		return false
	}
	for _, e := range t.To {
		if !x.edge(e, at) {
			return false
		}
	}
	switch t.Kind {
	case api.Jump:
		return len(t.To) == 1 && len(t.Rets) == 0
	case api.Branch:
		return branches && len(t.To) == 2 && len(t.Rets) == 0
	case api.Return:
		var list []int
		for _, v := range t.Rets {
			list = append(list, x.f.Widths[v])
		}
		return len(t.To) == 0 && slices.Equal(list, x.f.Rets)
	}
	return false
}

func (x *reader) edge(e api.Edge, at place) bool {
	if e.Block <= 0 || e.Block >= len(x.f.Blocks) || len(e.Args) != len(x.f.Blocks[e.Block].Params) {
		return false
	}
	for i, v := range e.Args {
		if !x.usable(v, at) || x.f.Widths[v] != x.f.Widths[x.f.Blocks[e.Block].Params[i]] {
			return false
		}
	}
	return true
}

// numbers are those that a field of a function may get.
func numbers(f api.Func) []int {
	list := []int{math.MinInt, math.MaxInt, 1 << 32, 1<<32 + 1, math.MaxInt32, math.MaxInt32 + 1, -2, 64, 65, 255, 256, 257, 4096, 4097, len(f.Widths), len(f.Widths) - 1, len(f.Blocks), len(f.Blocks) - 1}
	for n := -1; n <= 30; n++ {
		list = append(list, n)
	}
	return list
}

// texts are those that a field of a function may get.
func texts() []string {
	return []string{"", "_", "a", "a0", "s1", "f", "Z9_z", "0a", "9", " a", "a ", "a b", "a-b", "a.b", "é", "a\x00", "a\n", "\xff", "@", "[", "`", "{", "/", ":", strings.Repeat("n", 64), strings.Repeat("n", 65), strings.Repeat("é", 32)}
}

// set gives a field another value.
func set(r *rand.Rand, f api.Func, v reflect.Value) {
	switch v.Kind() {
	case reflect.Int:
		v.SetInt(int64(pick(r, numbers(f))))
	case reflect.Uint64:
		v.SetUint(pick(r, []uint64{0, 1, 2, 7, 8, 255, 256, 1 << 63, math.MaxUint64}))
	case reflect.String:
		v.SetString(pick(r, texts()))
	case reflect.Bool:
		v.SetBool(!v.Bool())
	}
}

// mutate changes something of a function.
func mutate(r *rand.Rand, f *api.Func) {
	if r.IntN(3) > 0 {
		set(r, *f, pick(r, fields(inside(f))))
		return
	}
	v := pick(r, lists(inside(f)))
	n := v.Len()
	switch k := r.IntN(4); {
	case n == 0 || k == 0:
		element := reflect.New(v.Type().Elem()).Elem()
		if n > 0 {
			element = tidied(v.Index(r.IntN(n)))
		}
		v.Set(reflect.Append(v, element))
	case k == 1:
		v.Set(v.Slice(0, n-1))
	case k == 2:
		v.Set(v.Slice(1, n))
	default:
		i, j := r.IntN(n), r.IntN(n)
		a, b := tidied(v.Index(i)), tidied(v.Index(j))
		v.Index(i).Set(b)
		v.Index(j).Set(a)
	}
}
