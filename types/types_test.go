package types_test

import (
	"fmt"
	"reflect"
	"strings"
	"testing"

	"jacquard/api"
	"jacquard/parser"
	"jacquard/types"
)

// parsed returns the tree of a source.
func parsed(t *testing.T, source string) api.Node {
	t.Helper()
	n, line, e := parser.Parse(source)
	if e != api.OK {
		t.Fatalf("Parse(%.300q): line %d, error %d", source, line, e)
	}
	return n
}

// check reports a source whose tree Check does not reject in a line with an error, or does not accept if the error is OK.
func check(t *testing.T, source string, line int, e api.Errno) {
	t.Helper()
	n := parsed(t, source)
	got, gotLine, gotError := types.Check(n)
	switch {
	case gotLine != line || gotError != e:
		t.Errorf("%.300q: line %d, error %d, not line %d, error %d", source, gotLine, gotError, line, e)
	case e != api.OK && !reflect.DeepEqual(got, api.Node{}):
		t.Errorf("%.300q: error %d with %s", source, e, shown(got))
	case e == api.OK && !reflect.DeepEqual(plain(got), plain(n)):
		t.Errorf("%.300q: %s", source, shown(got))
	case e == api.OK:
		checkTyped(t, got)
		checkMeaning(t, got)
	}
}

// wrap returns a source that has statements between line feeds, so that their first line is 5, in a kernel with names of all kinds.
func wrap(statements string) string {
	return `fn one(p: u8) -> s4 { return 1; }
fn two(p: u8, q: u1) -> u8 { return p; }
fn zero() -> u8 { return 0; }
kernel k(x: u8, y: s8, w: u16, i: u32, b: bool, a: u8[4], d: s8[2], q: in u8, r: in s8, o: out u8, z: out s8) {
` + statements + "\n}"
}

// inKernel checks statements that begin in line 1 in a kernel with names of all kinds.
func inKernel(t *testing.T, statements string, line int, e api.Errno) {
	t.Helper()
	if e != api.OK {
		line += 4
	}
	check(t, wrap(statements), line, e)
}

// name writes a type.
func name(n api.Type) string {
	letter := "u"
	if n.Signed {
		letter = "s"
	}
	return fmt.Sprint(letter, n.Width)
}

// written writes an expression with all types.
func written(n api.Node) string {
	var kids []string
	for _, kid := range n.Kids {
		kids = append(kids, written(kid))
	}
	signs := strings.Fields("+ - * / % & | ^ << >> == != < <= > >= && || - ~ !")
	s := n.Name
	switch n.Kind {
	case api.NodeNumber:
		s = fmt.Sprint(n.Num)
	case api.NodeUnary:
		s = signs[n.Op-1] + kids[0]
	case api.NodeBinary:
		s = "(" + kids[0] + " " + signs[n.Op-1] + " " + kids[1] + ")"
	case api.NodeCond:
		s = "(" + kids[0] + " ? " + kids[1] + " : " + kids[2] + ")"
	case api.NodeCast:
		s = "(" + kids[0] + " as)"
	case api.NodeCall, api.NodeRecv:
		s += "(" + strings.Join(kids, ", ") + ")"
	case api.NodeIndex:
		s += "[" + kids[0] + "]"
	}
	return s + ":" + name(n.Type)
}

// statement returns the last statement of a kernel that Check accepts, and that is made of statements.
func statement(t *testing.T, statements string) api.Node {
	t.Helper()
	tree, line, e := types.Check(parsed(t, wrap(statements)))
	if e != api.OK {
		t.Fatalf("%s: line %d, error %d", statements, line, e)
	}
	kernel := tree.Kids[3]
	body := kernel.Kids[len(kernel.Kids)-1].Kids
	return body[len(body)-1]
}

// exprs are expressions with all types that they get as the value of a let with the type v, if there is one.
var exprs = []struct{ v, expr, want string }{
	// Names, elements, received words and results have their own types.
	{"", "x", "x:u8"}, {"u8", "x", "x:u8"}, {"", "y", "y:s8"}, {"", "i", "i:u32"}, {"", "b", "b:u1"},
	{"", "recv(q)", "q():u8"}, {"s8", "recv(r)", "r():s8"}, {"", "zero()", "zero():u8"}, {"s4", "one(7)", "one(7:u8):s4"},
	{"", "two(x, b)", "two(x:u8, b:u1):u8"}, {"", "two(1 + 2, 1)", "two((1:u8 + 2:u8):u8, 1:u1):u8"}, {"", "two(two(0, b), 1 == x)", "two(two(0:u8, b:u1):u8, (1:u8 == x:u8):u1):u8"},
	// Numbers take the wanted type; true and false have their own.
	{"u8", "0", "0:u8"}, {"u8", "255", "255:u8"}, {"s8", "255", "255:s8"}, {"s8", "128", "128:s8"}, {"u1", "1", "1:u1"}, {"s1", "1", "1:s1"}, {"u9", "511", "511:u9"}, {"u63", "9223372036854775807", "9223372036854775807:u63"},
	{"u64", "18446744073709551615", "18446744073709551615:u64"}, {"s64", "18446744073709551615", "18446744073709551615:s64"}, {"", "true", "1:u1"}, {"u1", "false", "0:u1"}, {"bool", "true", "1:u1"},
	// Open expressions take the wanted type at any depth.
	{"s8", "y + 1 << 2", "((y:s8 + 1:s8):s8 << 2:s8):s8"}, {"u7", "-1", "-1:u7:u7"}, {"u7", "~-(1 + 2 * 3)", "~-(1:u7 + (2:u7 * 3:u7):u7):u7:u7:u7"},
	{"s3", "b ? 1 : 2", "(b:u1 ? 1:s3 : 2:s3):s3"}, {"s3", "1 - (b ? -1 : 2 % 3) / 4 ^ 5 & 6 | 7 >> 0", ""},
	// An operand that is not open gives the other one its type, on either side.
	{"", "x + 1", "(x:u8 + 1:u8):u8"}, {"", "1 + x", "(1:u8 + x:u8):u8"}, {"", "1 << y", "(1:s8 << y:s8):s8"}, {"", "y >> 7", "(y:s8 >> 7:s8):s8"}, {"", "w >> 15", "(w:u16 >> 15:u16):u16"},
	{"", "(1 + 2) * (3 - w)", "((1:u16 + 2:u16):u16 * (3:u16 - w:u16):u16):u16"}, {"", "-(1 & ~x)", "-(1:u8 & ~x:u8:u8):u8:u8"}, {"", "b ? 1 : x", "(b:u1 ? 1:u8 : x:u8):u8"}, {"", "b ? y : 1 + 2", "(b:u1 ? y:s8 : (1:s8 + 2:s8):s8):s8"},
	{"", "b ? 1 : b ? 2 : x", "(b:u1 ? 1:u8 : (b:u1 ? 2:u8 : x:u8):u8):u8"}, {"u8", "1 + x", "(1:u8 + x:u8):u8"}, {"", "true + 1", "(1:u1 + 1:u1):u1"}, {"", "1 - true", "(1:u1 - 1:u1):u1"},
	// Comparisons and logical operators are u1, whatever is wanted, and their operands have types of their own.
	{"", "x == 1", "(x:u8 == 1:u8):u1"}, {"u1", "1 != y", "(1:s8 != y:s8):u1"}, {"", "x < 255", "(x:u8 < 255:u8):u1"}, {"", "1 + 2 <= w", "((1:u16 + 2:u16):u16 <= w:u16):u1"}, {"", "b > 0", "(b:u1 > 0:u1):u1"}, {"", "x >= recv(q)", "(x:u8 >= q():u8):u1"},
	{"", "b && 1", "(b:u1 && 1:u1):u1"}, {"", "1 || 0", "(1:u1 || 0:u1):u1"}, {"", "1 + 0 && ~b", "((1:u1 + 0:u1):u1 && ~b:u1:u1):u1"}, {"", "!b", "!b:u1:u1"}, {"", "!1", "!1:u1:u1"}, {"u1", "!(x == y as u8)", "!(x:u8 == (y:s8 as):u8):u1:u1"},
	{"", "1 ? x : 2", "(1:u1 ? x:u8 : 2:u8):u8"}, {"", "0 == b ? x : x", "((0:u1 == b:u1):u1 ? x:u8 : x:u8):u8"},
	// A cast wants its type of open operands only.
	{"", "1 as u3", "(1:u3 as):u3"}, {"", "7 as u3 as s64", "((7:u3 as):u3 as):s64"}, {"", "recv(q) as u4", "(q():u8 as):u4"}, {"", "-1 as s8", "(-1:s8:s8 as):s8"}, {"", "(x + 1) as s4", "((x:u8 + 1:u8):u8 as):s4"}, {"", "(b ? 1 : 2) as u9", "((b:u1 ? 1:u9 : 2:u9):u9 as):u9"},
	{"", "true as u8", "(1:u1 as):u8"}, {"", "(x == 1) as u8", "((x:u8 == 1:u8):u1 as):u8"}, {"u16", "x as u16 + 1", "((x:u8 as):u16 + 1:u16):u16"}, {"", "1 + 2 as u4", "(1:u4 + (2:u4 as):u4):u4"}, {"", "1 as u1", "(1:u1 as):u1"},
	// An index is u32 if it is open, and any unsigned word otherwise.
	{"", "a[3]", "a[3:u32]:u8"}, {"", "a[4294967295]", "a[4294967295:u32]:u8"}, {"s8", "d[x]", "d[x:u8]:s8"}, {"", "a[1 + 2]", "a[(1:u32 + 2:u32):u32]:u8"}, {"", "a[w + 1]", "a[(w:u16 + 1:u16):u16]:u8"}, {"", "a[b]", "a[b:u1]:u8"}, {"", "a[true]", "a[1:u1]:u8"},
	{"", "a[y as u8]", "a[(y:s8 as):u8]:u8"}, {"", "a[a[a[0]]]", "a[a[a[0:u32]:u8]:u8]:u8"}, {"", "a[x == 0]", "a[(x:u8 == 0:u8):u1]:u8"}, {"", "a[b ? 0 : 1]", "a[(b:u1 ? 0:u32 : 1:u32):u32]:u8"}, {"", "a[1 as u64]", "a[(1:u64 as):u64]:u8"},
}

// P5.1: the types of expressions, and of lets without one.
func TestTypesOfExpressions(t *testing.T) {
	for _, c := range exprs {
		source := "let v = " + c.expr + ";"
		if c.v != "" {
			source = "let v: " + c.v + " = " + c.expr + ";"
		}
		n := statement(t, source)
		if got := written(n.Kids[0]); got != c.want && c.want != "" {
			t.Errorf("%s: %s, not %s", source, got, c.want)
		}
		if n.Type != n.Kids[0].Type || n.Type.Width == 0 {
			t.Errorf("%s: a %s with the type %s", source, name(n.Type), name(n.Kids[0].Type))
		}
	}
}

// P5.1: expressions that break a rule, as the value of a let with the type v, if there is one. The lines are those of the expression.
var badExprs = []struct {
	v, expr string
	line    int
	e       api.Errno
}{
	// Open expressions without a wanted type: nothing else is checked.
	{"", "1", 1, api.ErrType}, {"", "~\n-1", 1, api.ErrType}, {"", "1 <\n2", 1, api.ErrType}, {"", "\n1 == \n-\n2", 2, api.ErrType}, {"", "nope ?\n1 :\n2", 1, api.ErrType}, {"", "y ? 300 : 1", 1, api.ErrType},
	{"", "(\n1 + 2) as u1 + (b ? 1 : 2)\n + (3 == 4)", 2, api.ErrType}, {"", "b && (\n1 < 2)", 2, api.ErrType}, {"", "nope == (\n1 < 2)", 1, api.ErrName}, {"", "x + (b ? \nb : 1)", 2, api.ErrType}, {"", "(1 > 2) ? \nnope : 1", 1, api.ErrType},
	// Numbers.
	{"u8", "256", 1, api.ErrType}, {"s8", "256", 1, api.ErrType}, {"u1", "2", 1, api.ErrType}, {"s1", "2", 1, api.ErrType}, {"u63", "9223372036854775808", 1, api.ErrType}, {"", "9 as u3", 1, api.ErrType}, {"", "8 as s3", 1, api.ErrType}, {"u8", "true", 1, api.ErrType}, {"s1", "false", 1, api.ErrType},
	{"u8", "1 +\n256", 2, api.ErrType}, {"", "x ==\n256", 2, api.ErrType}, {"", "256\n== x", 1, api.ErrType}, {"", "x <<\n256", 2, api.ErrType}, {"", "a[\n4294967296]", 2, api.ErrType}, {"", "b + 2", 1, api.ErrType}, {"", "b &&\n2", 2, api.ErrType}, {"", "!\n2", 2, api.ErrType},
	// Names.
	{"", "nope", 1, api.ErrName}, {"u8", "\nnope", 2, api.ErrName}, {"", "a", 1, api.ErrName}, {"", "q", 1, api.ErrName}, {"", "o", 1, api.ErrName}, {"", "zero", 1, api.ErrName}, {"", "k", 1, api.ErrName}, {"", "v", 1, api.ErrName},
	{"", "recv(o)", 1, api.ErrName}, {"", "recv(x)", 1, api.ErrName}, {"", "recv(a)", 1, api.ErrName}, {"", "recv(nope)", 1, api.ErrName}, {"", "recv(\nzero)", 1, api.ErrName},
	{"", "nope[y]", 1, api.ErrName}, {"", "x[\nnope]", 1, api.ErrName}, {"", "q[0]", 1, api.ErrName}, {"", "o[0]", 1, api.ErrName}, {"", "zero[0]", 1, api.ErrName}, {"", "a[\nnope]", 2, api.ErrName}, {"", "a[\na]", 2, api.ErrName},
	{"", "nope(\nnope)", 1, api.ErrName}, {"", "x()", 1, api.ErrName}, {"", "k()", 1, api.ErrName}, {"", "a(0)", 1, api.ErrName}, {"", "q()", 1, api.ErrName},
	// Types that are not the wanted ones.
	{"s8", "x", 1, api.ErrType}, {"u8", "y", 1, api.ErrType}, {"u16", "x", 1, api.ErrType}, {"u7", "recv(q)", 1, api.ErrType}, {"u8", "recv(r)", 1, api.ErrType}, {"s8", "a[0]", 1, api.ErrType}, {"u8", "one(1)", 1, api.ErrType}, {"s8", "zero()", 1, api.ErrType},
	{"u8", "x + y", 1, api.ErrType}, {"u8", "x +\ny", 2, api.ErrType}, {"", "x +\ny", 2, api.ErrType}, {"u8", "1 +\n(2 -\ny)", 3, api.ErrType}, {"s8", "x\n+ y", 1, api.ErrType}, {"", "x * \nw", 2, api.ErrType}, {"", "1 + x == \ny", 2, api.ErrType}, {"", "(1 +\n2) + x == 3 + \ny", 3, api.ErrType}, {"", "x < \ni", 2, api.ErrType},
	{"u8", "-\ny", 2, api.ErrType}, {"u8", "~ -\nw", 2, api.ErrType}, {"u8", "! \nx", 2, api.ErrType}, {"u8", "!\nb", 1, api.ErrType}, {"s1", "x\n== x", 1, api.ErrType}, {"u8", "b\n&& b", 1, api.ErrType}, {"u8", "b && \nx", 2, api.ErrType}, {"", "x || \nnope", 1, api.ErrType}, {"", "b || \nx == 2 && \ny", 3, api.ErrType},
	{"u8", "x ? x : y", 1, api.ErrType}, {"", "b ? x :\ny", 2, api.ErrType}, {"", "b ? 300 :\nx", 1, api.ErrType}, {"s8", "b ?\nx :\nnope", 2, api.ErrType}, {"u8", "b\n? x :\ny", 3, api.ErrType}, {"", "nope ? x : y", 1, api.ErrName}, {"", "x ?\nnope : y", 1, api.ErrType},
	{"u8", "x as s8", 1, api.ErrType}, {"u8", "(\nx + \ny) as u8", 3, api.ErrType}, {"u16", "(\ny as u8) as s16", 1, api.ErrType}, {"", "(1 +\n8) as u3", 2, api.ErrType},
	// Which of two Kids is typed first.
	{"", "nope +\nx + y", 1, api.ErrName}, {"", "1 + (\nnope) + \nnope", 2, api.ErrName}, {"", "256 + \n(x + \ny)", 3, api.ErrType}, {"u8", "256 + \n(x + \ny)", 1, api.ErrType}, {"", "(256 + \n1) == (x + \ny)", 3, api.ErrType}, {"", "b ? 256 : \nx + \ny", 3, api.ErrType},
	// Indexes that are signed.
	{"", "a[\ny]", 1, api.ErrType}, {"s8", "a[\ny]", 1, api.ErrType}, {"", "\na[\n1 as s8]", 2, api.ErrType}, {"", "d[\nd[0]]", 1, api.ErrType}, {"", "a[1 + \ny]", 1, api.ErrType}, {"", "a[x + \ny]", 2, api.ErrType}, {"s8", "nope[y]", 1, api.ErrName},
	// Calls.
	{"", "zero(1)", 1, api.ErrType}, {"", "one()", 1, api.ErrType}, {"", "one(\nnope,\nnope)", 1, api.ErrType}, {"", "two(x)", 1, api.ErrType}, {"", "two(x, b, \nb)", 1, api.ErrType}, {"", "one(\ny)", 2, api.ErrType}, {"", "one(\n256)", 2, api.ErrType}, {"", "two(\ny,\nnope)", 2, api.ErrType},
	{"", "two(x,\n2)", 2, api.ErrType}, {"", "two(b,\nb)", 1, api.ErrType}, {"s8", "one(\nnope)", 2, api.ErrName}, {"s8", "\none(\n1)", 2, api.ErrType},
}

// P5.1: the line and the error of an expression that breaks a rule.
func TestErrorsOfExpressions(t *testing.T) {
	for _, c := range badExprs {
		ofType := ""
		if c.v != "" {
			ofType = ": " + c.v
		}
		inKernel(t, "let v"+ofType+" = "+c.expr+";", c.line, c.e)
	}
}
