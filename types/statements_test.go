package types_test

import (
	"fmt"
	"strings"
	"testing"

	"jacquard/api"
)

// goodStatements break no rule.
var goodStatements = []string{
	"",
	// Declarations, and names whose blocks have ended.
	"var v: u8; var n: s4 = 1; let c = x; let e: u16 = 1 + 2; v = c; n = n;",
	"if b { var v: u8; v = 1; } var v: s8; v = -1;",
	"if b { let v = x; } else { let v = y; } while b { let v = w; } for v: u4 in 0 .. 3 { let n = v; } let v = true;",
	"for j: u8 in 0 .. x { a[j] = j; } for j: s8 in -1 .. y { d[j as u8] = j; } let j = y;",
	"for j: u8 in x .. x { for n: u8 in j .. x { let v = j + n; } for n: u4 in 0 .. 1 { } } let v = x;",
	"let zero = zero(); let one = one(zero); let two = two(one as u8, b); let k = two;",
	"var zero: u8 = zero(); zero = zero(); for k: u8 in zero .. zero() { send o(k + zero()); }",
	// Assignments, stores and sends.
	"var v: s8 = 200; v = v; v = y; v = 1 - recv(r); v = d[0] << 7; v = b ? 1 : 2;",
	"a[0] = 255; a[x] = x; a[w] = 1 + x; a[b] = zero(); a[a[0]] = a[1 + 2]; d[1] = y; d[recv(q)] = recv(r); a[1 as u3] = 1 as u8; a[true] = 0;",
	"send o(1); send o(x + 1); send z(y); send z(-128); send o(recv(q)); send z(recv(r) as u8 as s8);",
	// Branches and loops.
	"if 1 { } if 0 == b { } else { } if b { } else if x == 1 { } else if !b { let v = 1 as u1; } else { let v = x; }",
	"while true { } while x != recv(q) { } while 0 { }",
	"for j: s1 in 0 .. 1 { } for j: u64 in 18446744073709551615 .. 0 { } for j: u32 in i .. i + 1 { } for j: bool in true .. b { }",
	"# pipeline 256 # unroll 64 while b { } # unroll # pipeline for j: u8 in 0 .. 1 { } # unroll 2 for j: u8 in 0 .. 1 { # pipeline while 1 { } }",
}

// P5.1
func TestGoodStatements(t *testing.T) {
	for _, s := range goodStatements {
		inKernel(t, s, 0, api.OK)
	}
}

// badStatements break a rule in a line.
var badStatements = []struct {
	s    string
	line int
	e    api.Errno
}{
	// Var and Let: the value comes ahead of the declaration.
	{"var\nv: u8 =\nv;", 3, api.ErrName}, {"let v =\nv;", 2, api.ErrName}, {"var x: u8 =\ny;", 2, api.ErrType}, {"\nvar x: u8 =\nx;", 2, api.ErrName}, {"\nlet x =\nx;", 2, api.ErrName}, {"let x =\nnope;", 2, api.ErrName}, {"let x: u8 =\n1;", 1, api.ErrName},
	{"var v: u8 =\n256;", 2, api.ErrType}, {"let v: s8 = 1\n+ x;", 2, api.ErrType}, {"let v: s8 = 1 +\nx;", 2, api.ErrType}, {"var v: u1 =\n-2;", 2, api.ErrType}, {"let v = 1;", 1, api.ErrType}, {"let v =\n1;", 2, api.ErrType}, {"let v =\n(1 < 2);", 2, api.ErrType},
	// Names that are visible already, of every kind, also from outer blocks and as the name of a loop.
	{"var x: u8;", 1, api.ErrName}, {"var a: u8;", 1, api.ErrName}, {"var q: u8;", 1, api.ErrName}, {"var o: u8;", 1, api.ErrName}, {"let b = x;", 1, api.ErrName}, {"var v: u8;\nvar v: u8;", 2, api.ErrName}, {"let v = x;\nvar v: u8;", 2, api.ErrName}, {"var v: u8;\nlet v = x;", 2, api.ErrName},
	{"var v: u8; if b {\nvar v: u8; }", 2, api.ErrName}, {"if b { } else {\nlet x = y; }", 2, api.ErrName}, {"while b { if b { } else if b {\nlet x = y; } }", 2, api.ErrName}, {"for j: u8 in 0 .. 1 {\nvar j: u8; }", 2, api.ErrName}, {"for j: u8 in 0 .. 1 { if b {\nlet j = x; } }", 2, api.ErrName},
	{"for x: u8\nin 0 .. 1 { }", 1, api.ErrName}, {"let j = x;\nfor j: u8 in 0 .. 1 {\n} nope = 1;", 2, api.ErrName}, {"for j: u8 in 0 .. 1 {\nfor j: u8 in 0 .. 1 { } }", 2, api.ErrName}, {"for a: u8 in\ny .. 0 { }", 2, api.ErrType}, {"for a: u8 in 0 .. 1 {\nnope = 1; }", 1, api.ErrName},
	// Names whose blocks have ended, or that come later.
	{"if b { var v: u8; }\nv = 1;", 2, api.ErrName}, {"if b { let v = x; } else {\nlet n = v; }", 2, api.ErrName}, {"while b { let v = x; }\nlet n =\nv;", 3, api.ErrName}, {"for j: u8 in 0 .. 1 { }\nlet n = j;", 2, api.ErrName}, {"for j: u8 in 0 .. 1 { var v: u8; }\nv = 1;", 2, api.ErrName},
	{"if b { if b { var v: u8; }\nv = 1; }", 2, api.ErrName}, {"if b { if b { } let v = x; }\nlet v = v;", 2, api.ErrName}, {"v = 1;\nvar v: u8;", 1, api.ErrName}, {"var v: u8; if b { var n: u8; } v = 1; let c = v;\nn = 1;", 2, api.ErrName},
	// A name of for is not visible in its bounds.
	{"for j: u8 in\nj .. 1 { }", 2, api.ErrName}, {"for j: u8 in 0 ..\nj { }", 2, api.ErrName}, {"for j: u8 in 0 .. 1 + (\nj) { }", 2, api.ErrName},
	// Assign: the name comes ahead of the value.
	{"nope =\nnope;", 1, api.ErrName}, {"x =\n1;", 1, api.ErrName}, {"let v = x; v = x;", 1, api.ErrName}, {"for j: u8 in 0 .. 1 {\nj = 1; }", 2, api.ErrName}, {"a = 1;", 1, api.ErrName}, {"q = 1;", 1, api.ErrName}, {"o = 1;", 1, api.ErrName}, {"zero = 1;", 1, api.ErrName}, {"k = 1;", 1, api.ErrName},
	{"var v: u8; v =\ny;", 2, api.ErrType}, {"var v: u8; v = 1 +\n(2 * 256);", 2, api.ErrType}, {"var v: s8; v =\nb;", 2, api.ErrType}, {"var v: s8; v =\nw;", 2, api.ErrType}, {"var v: u8; v = v +\nd[0];", 2, api.ErrType},
	// Store: the name, the index, the value.
	{"nope[\nnope] =\nnope;", 1, api.ErrName}, {"x[0] = 1;", 1, api.ErrName}, {"q[0] = 1;", 1, api.ErrName}, {"o[0] = 1;", 1, api.ErrName}, {"zero[0] = 1;", 1, api.ErrName}, {"var v: u8;\nv[0] = 1;", 2, api.ErrName}, {"a[\nnope] =\nnope;", 2, api.ErrName},
	{"a[\ny] =\nnope;", 1, api.ErrType}, {"a[\n1 as s8] = 1;", 1, api.ErrType}, {"a[\n4294967296] =\n1;", 2, api.ErrType}, {"a[1 <\n2] = nope;", 1, api.ErrType}, {"a[0] =\ny;", 2, api.ErrType}, {"a[0] =\n256;", 2, api.ErrType}, {"d[0] =\nx;", 2, api.ErrType}, {"a[x] = 1 +\na;", 2, api.ErrName}, {"a[w] =\nw;", 2, api.ErrType},
	// If: the condition, and the blocks in their order.
	{"if\nx {\nnope = 1; }", 2, api.ErrType}, {"if\n2 { }", 2, api.ErrType}, {"if 1 <\n2 { }", 1, api.ErrType}, {"if b { nope = 1; } else {\nnope = 1; }", 1, api.ErrName}, {"if b { } else {\nnope = 1; }", 2, api.ErrName}, {"if b { } else\nif x { } else {\nnope = 1; }", 2, api.ErrType},
	{"if b { } else if b {\nnope = 1; } else {\nnope = 1; }", 2, api.ErrName}, {"if b { } else if b { } else {\nnope = 1; }", 2, api.ErrName}, {"if\ny { }", 2, api.ErrType}, {"if b {\nif nope { } }", 2, api.ErrName},
	// For and While: the directives, the bounds, the name, the block.
	{"# pipeline 257\nfor x: u8 in nope .. 1 { }", 1, api.ErrLimit}, {"\n# unroll 65\nwhile x { }", 2, api.ErrLimit}, {"# pipeline 256 # unroll 65\nwhile b { }", 1, api.ErrLimit}, {"# unroll 2 # pipeline 1048576 for j: u8 in 0 .. 1 { }", 1, api.ErrLimit}, {"while b {\n# unroll 1048576 while b { } }", 2, api.ErrLimit},
	{"# pipeline 256 # unroll 64 while\nx { }", 2, api.ErrType}, {"for j: u8 in\nnope ..\ny { }", 2, api.ErrName}, {"for j: u8 in 0 ..\ny { }", 2, api.ErrType}, {"for x: u8 in 0 ..\n256 { nope = 1; }", 2, api.ErrType}, {"for j: s4 in 16\n.. 0 { }", 1, api.ErrType}, {"for j: u8 in 0 .. 1 { let n =\n1; }", 2, api.ErrType}, {"for j: u8 in 0 .. 1 {\nlet n: s8 = j; }", 2, api.ErrType},
	{"while\nx {\nnope = 1; }", 2, api.ErrType}, {"while b {\nnope = 1; }", 2, api.ErrName}, {"while 3 { }", 1, api.ErrType}, {"while\nnope { }", 2, api.ErrName},
	// Send: the name, the value.
	{"send nope(\nnope);", 1, api.ErrName}, {"send q(\n1);", 1, api.ErrName}, {"send x(1);", 1, api.ErrName}, {"send a(1);", 1, api.ErrName}, {"send zero(1);", 1, api.ErrName}, {"send o(\ny);", 2, api.ErrType}, {"send z(\nx);", 2, api.ErrType}, {"send o(\n256);", 2, api.ErrType}, {"send o(\nrecv(o));", 2, api.ErrName},
	// Return in a kernel without a result.
	{"return\nnope;", 1, api.ErrType}, {"return 1;\nnope = 1;", 1, api.ErrType}, {"nope = 1;\nreturn 1;", 1, api.ErrName}, {"if b {\nreturn x; }", 2, api.ErrType},
	// The first of several errors.
	{"let v = y;\nv = 1;\nnope = 1;", 2, api.ErrName}, {"if b { let v = x; }\nlet v: u8 =\ny; nope = 1;", 3, api.ErrType},
}

// P5.1
func TestBadStatements(t *testing.T) {
	for _, c := range badStatements {
		inKernel(t, c.s, c.line, c.e)
	}
}

// P5.1: operands of the same width and different signs, for all operators of two operands.
func TestOperands(t *testing.T) {
	const arithmetic, comparisons, logical = "+ - * / % & | ^ << >>", "== != < <= > >=", "&& ||"
	for _, op := range strings.Fields(arithmetic + " " + comparisons) {
		for _, pair := range []string{"x y", "y x", "x b", "i y", "w x", "x recv(r)", "d[0] a[0]", "zero() y", "one(x) zero()", "b d[0]"} {
			left, right, _ := strings.Cut(pair, " ")
			inKernel(t, "let v = "+left+" "+op+"\n"+right+";", 2, api.ErrType)
		}
		for _, pair := range []string{"x x", "y y", "x 255", "255 x", "y 255", "b 1", "0 b", "one(1) 15", "1+2 w"} {
			left, right, _ := strings.Cut(pair, " ")
			inKernel(t, "let v = ("+left+") "+op+" "+right+";", 0, api.OK)
		}
		inKernel(t, "let v = 1 "+op+"\n2;", 1, api.ErrType)
		inKernel(t, "let v = x "+op+"\n256;", 2, api.ErrType)
		inKernel(t, "let v = 256 "+op+"\nx;", 1, api.ErrType)
		inKernel(t, "let v = (256 "+op+"\nx) + \ny;", 1, api.ErrType)
	}
	for _, op := range strings.Fields(arithmetic) {
		inKernel(t, "let v: u16 = 1 "+op+" 2; var n: s3 = -1 "+op+" ~3;", 0, api.OK)
		inKernel(t, "let v: s8 = x "+op+"\nx;", 1, api.ErrType)
		inKernel(t, "let v: s8 = \nx "+op+"\nx;", 2, api.ErrType)
	}
	for _, op := range strings.Fields(comparisons) {
		inKernel(t, "let v: u1 = x "+op+" 1; let n: bool = 1 "+op+" y;", 0, api.OK)
		inKernel(t, "let v: u1 = 1 "+op+" 2;", 1, api.ErrType)
		inKernel(t, "let v: s1 = x "+op+" x;", 1, api.ErrType)
		inKernel(t, "let v: u8 = x "+op+" \nx;", 1, api.ErrType)
	}
	for _, op := range strings.Fields(logical) {
		inKernel(t, "let v = 1 "+op+" 0; let n: u1 = b "+op+" 1; let c = b "+op+" x == 1;", 0, api.OK)
		inKernel(t, "let v: u8 = b "+op+" b;", 1, api.ErrType)
		for _, other := range []string{"x", "y", "2", "a[0]", "one(1)", "1 as s1"} {
			inKernel(t, "let v = b "+op+"\n"+other+";", 2, api.ErrType)
			inKernel(t, "let v =\n"+other+" "+op+"\nnope;", 2, api.ErrType)
		}
	}
}

// P5.1: numbers at the limits of all types, also beside an operand that is not open.
func TestNumbers(t *testing.T) {
	for width := 1; width <= api.MaxWidth; width++ {
		most := uint64(1)<<(width-1)*2 - 1
		for _, letter := range []string{"u", "s"} {
			ofType := fmt.Sprint(letter, width)
			inKernel(t, fmt.Sprintf("var v: %s = %d; v = v ^ %d; let n = %d as %s; let c = %d != v;", ofType, most, most, most, ofType, most), 0, api.OK)
			if width == api.MaxWidth {
				continue
			}
			inKernel(t, fmt.Sprintf("let v: %s =\n%d;", ofType, most+1), 2, api.ErrType)
			inKernel(t, fmt.Sprintf("var v: %s; v = v ^\n%d;", ofType, most+1), 2, api.ErrType)
			inKernel(t, fmt.Sprintf("let v = \n%d as %s;", most+1, ofType), 2, api.ErrType)
			inKernel(t, fmt.Sprintf("var v: %s; let c =\n18446744073709551615 == v;", ofType), 2, api.ErrType)
		}
	}
}
