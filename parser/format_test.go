package parser_test

import (
	"math/rand/v2"
	"reflect"
	"strings"
	"testing"

	"jacquard/api"
	"jacquard/lexer"
	"jacquard/parser"
)

// P4.2
func TestFormat(t *testing.T) {
	r := rand.New(rand.NewPCG(4, 7))
	for n := range trees(3000) {
		bare := copied(n)
		s, e := parser.Format(n)
		if e != api.OK || !reflect.DeepEqual(bared(parsed(t, s)), bare) {
			t.Fatalf("Format(%s): %d, %q", shown(n), e, s)
		}
		// Lines, types of expressions and empty Kids play no role.
		spell(&n, r)
		for part := range walk(&n) {
			if part.Kind >= api.NodeNumber && part.Kind != api.NodeCast && part.Type.Width == 0 {
				part.Type.Width = 2 + r.IntN(80)
			}
			if len(part.Kids) == 0 && r.IntN(2) == 0 {
				part.Kids = []api.Node{}
			}
		}
		for _, other := range []api.Node{n, bare, parser.Bare(n), parsed(t, s)} {
			if again, e := parser.Format(other); again != s || e != api.OK {
				t.Fatalf("Format(%s): %d, %q, then %q", shown(n), e, s, again)
			}
		}
	}
}

// P4.2: all expressions of two levels of operators, with all pairs of operators.
func TestFormatOfPairs(t *testing.T) {
	name := api.Node{Kind: api.NodeName, Name: "a"}
	var shapes []api.Node
	for op := api.SrcAdd; op <= api.SrcEither; op++ {
		shapes = append(shapes, api.Node{Kind: api.NodeBinary, Op: op, Kids: []api.Node{name, name}})
	}
	for op := api.SrcNeg; op <= api.SrcIsZero; op++ {
		shapes = append(shapes, api.Node{Kind: api.NodeUnary, Op: op, Kids: []api.Node{name}})
	}
	shapes = append(shapes,
		api.Node{Kind: api.NodeCond, Kids: []api.Node{name, name, name}},
		api.Node{Kind: api.NodeCast, Type: api.Type{Width: 8}, Kids: []api.Node{name}},
		api.Node{Kind: api.NodeIndex, Name: "b", Kids: []api.Node{name}},
		api.Node{Kind: api.NodeCall, Name: "b", Kids: []api.Node{name, name}},
		api.Node{Kind: api.NodeCall, Name: "b"}, api.Node{Kind: api.NodeRecv, Name: "b"}, api.Node{Kind: api.NodeNumber, Num: 12},
	)
	for _, outer := range shapes {
		for i := range outer.Kids {
			for _, inner := range shapes {
				n := copied(outer)
				n.Kids[i] = inner
				tree := tower(5)
				tree.Kids[0].Kids[0].Kids[0].Kids[0] = n
				s, e := parser.Format(tree)
				if got := bared(parsed(t, s)); e != api.OK || !reflect.DeepEqual(got, tree) {
					t.Errorf("%d, %q", e, s)
				}
			}
		}
	}
}

// P4.1: the layout.
func TestLayout(t *testing.T) {
	const want = `fn f(a: u8, b: s9) -> u1 {
	return true;
}
kernel k(a: u8[4] cyclic 2, b: u8[1000000] blocks 3, c: u1[3] complete, d: in u8, e: out s9, f: s7[5]) -> u8 {
	var x: u8 = a[1 + 2] * (b - c);
	var y: u8;
	let z = recv(d);
	let v: s9 = -x as s9 as u8 << 1 << 2;
	let w = a ? b ? c : d : e ? (f ? g : h) ? i : j : k;
	x = a - b - (c - d) || -(e as u8) < ~-(f + g) & (h < i);
	a[0] = 0xffffffffffffffff;
	# pipeline 2
	# unroll
	for i: u8 in 0 .. x ? 1 : 2 {
		if x < 1 {
			x = f(1, ~2);
		} else if y == (x > z) {} else {
			send e(999999999999);
		}
	}
	# pipeline
	# unroll 3
	while (x ? y : z) as u8 {}
	return x;
}
kernel l() {}
`
	got, e := parser.Format(parsed(t, strings.Join(strings.Fields(want), "\n")))
	if e != api.OK || got != want {
		t.Errorf("%d\n%s", e, got)
	}
}

// P4.1, P4.2: the longest sources. The tree of a source has a source that is no longer.
func TestLongSources(t *testing.T) {
	for _, s := range []string{
		"kernel k(){" + strings.Repeat("x=y;", 9998) + "}", strings.Repeat("fn f()->u8{}", 5461), "kernel k(){" + strings.Repeat("if a{}", 6665) + "}", "kernel k(){x=f(" + strings.Repeat("1000000,", 8000) + "1);}", "kernel k(){x=f(" + strings.Repeat("0xffffffffffffffff,", 3448) + "1);}",
		"kernel k(){x=f(" + strings.Repeat("-a as u8,", 4000) + "1);}", "kernel k(){" + strings.Repeat("#pipeline#unroll 2 while~a{}", 2300) + "}", "kernel k(){" + strings.Repeat("while a{", 97) + strings.Repeat("x=y;", 9800) + strings.Repeat("}", 98), "kernel k(a:u8[4]cyclic 2" + strings.Repeat(",a:in u8,b:s8[9]complete", 2700) + "){}",
		"kernel k(){" + strings.Repeat("return-(a+b)*c;", 2800) + "}", "kernel k(){x=f(" + strings.Repeat("true,(a?b:c)?0x10000000000:1,", 2200) + "1);}",
	} {
		if len(s) > api.MaxSource {
			t.Fatalf("%.30s..: %d bytes", s, len(s))
		}
		n := parsed(t, s)
		got, e := parser.Format(n)
		if e != api.OK || len(got) > api.MaxSource || !parser.Same(parsed(t, got), n) {
			t.Errorf("%.30s..: %d, %d bytes", s, e, len(got))
		}
	}
}

// returns returns a tree of returns of long names whose shortest source has some bytes.
func returns(size int) api.Node {
	n := tower(5)
	block := &n.Kids[0].Kids[0]
	for left := size - len("kernel k(){return a;}"); left > 0; {
		// Between 9 and 72 bytes, and no rest that is too short for one more.
		part := left
		if left > 72 {
			part = min(72, left-9)
		}
		left -= part
		name := api.Node{Kind: api.NodeName, Name: strings.Repeat("z", part-len("return ;"))}
		block.Kids = append(block.Kids, api.Node{Kind: api.NodeReturn, Kids: []api.Node{name}})
	}
	return n
}

// P4.1: sources that have just as many bytes as a source may have, and a few more.
func TestFormatLimit(t *testing.T) {
	for size := api.MaxSource - 30; size <= api.MaxSource; size++ {
		n := returns(size)
		s, e := parser.Format(n)
		if e != api.OK || len(s) != size || !reflect.DeepEqual(bared(parsed(t, s)), n) {
			t.Errorf("%d bytes: %d, %d bytes", size, e, len(s))
		}
	}
	for _, extra := range []int{1, 2, 9, 100, 65536} {
		n := returns(api.MaxSource + extra)
		if s, e := parser.Format(n); e != api.ErrLimit || s != "" || !parser.Valid(n) {
			t.Errorf("%d bytes too many: %d, %.20q", extra, e, s)
		}
	}
}

// P4.3: blanks, comments, and the way in which numbers are written play no role.
func TestTreesOfTokens(t *testing.T) {
	r := rand.New(rand.NewPCG(4, 8))
	for n := range trees(500) {
		s := spell(&n, r)
		tokens, _, _ := lexer.Lex(s)
		tree := bared(parsed(t, s))
		for range 3 {
			var text strings.Builder
			for _, token := range tokens {
				text.WriteString([]string{" ", "\n", "\t\t", " // fn {\n\n", "\r\n"}[r.IntN(5)])
				text.WriteString(token.Text)
			}
			if got := bared(parsed(t, text.String())); !reflect.DeepEqual(got, tree) {
				t.Fatalf("%q and %q have different trees", s, text.String())
			}
		}
		if got := bared(parsed(t, lexer.Join(tokens))); !reflect.DeepEqual(got, tree) {
			t.Fatalf("%q has another tree than its tokens", s)
		}
	}
	numbers := []string{"16", "0x10", "0b10000", "0016", "0x0010"}
	for _, a := range numbers {
		for _, b := range numbers {
			with := func(s string) api.Node {
				return bared(parsed(t, "kernel k(a: u8["+s+"] cyclic "+s+") { # pipeline "+s+" # unroll "+s+" while "+s+" { } }"))
			}
			if !reflect.DeepEqual(with(a), with(b)) {
				t.Errorf("%s and %s", a, b)
			}
		}
	}
}
