package parser_test

import (
	"reflect"
	"strings"
	"testing"

	"jacquard/api"
	"jacquard/parser"
)

// P4.1
func TestBrackets(t *testing.T) {
	repeat := strings.Repeat
	// With the brackets of the block, 200 are open.
	for _, pair := range []string{"()", "f()"} {
		open, end := pair[:len(pair)-1], pair[len(pair)-1:]
		deep := "x = " + repeat(open, 199) + "a" + repeat(end, 199) + ";"
		source := inKernel(deep)
		if pair == "()" {
			parsed(t, source)
		} else {
			check(t, source, 1, api.ErrLimit) // There are too many levels.
		}
		check(t, inKernel("\nx =\n"+repeat(open, 199)+"\n"+open+"\n"+open+repeat(end, 201)), 4, api.ErrLimit)
		check(t, inKernel("\n{(]}"+deep), 2, api.ErrSyntax)
	}
	for _, s := range []string{"(", "[", "{", "([{", "{([", "kernel (", "(]["} {
		// The first token with 201 open brackets counts, whatever the tokens are.
		source := repeat(s+"\n", 201)
		line, e := recognizer{rules()}.expected(source)
		if e != api.ErrLimit || line != map[string]int{"([{": 67, "{([": 67, "(][": 201}[s] && line != 201 {
			t.Fatalf("%q: the line is %d", s, line)
		}
		check(t, source, line, e)
	}
	// A bracket of any kind closes one of any kind, and none if none is open.
	check(t, repeat("(])", 1000)+"\n"+repeat(")", 1000)+"\n\n"+repeat("{", 200), 1, api.ErrSyntax)
	check(t, repeat("(])", 1000)+"\n"+repeat("]", 1000)+"\n\n"+repeat("{", 200)+"\n[", 5, api.ErrLimit)
	check(t, repeat("[", 200)+"}\n(\n(", 3, api.ErrLimit)
	check(t, repeat("[", 200)+"}\n(\n)(", 1, api.ErrSyntax)
	check(t, "}}}}\n"+repeat("(", 201), 2, api.ErrLimit)
	check(t, "kernel k() { x = 1 }\n"+repeat("(", 201), 2, api.ErrLimit)
}

// nodes returns a source whose tree has a number of nodes.
func nodes(count int) string {
	// A program, a kernel, a block and a return with a number are five.
	s := "return 1;" + strings.Repeat("x=y;", (count-5)/2)
	if count%2 == 0 {
		s = strings.Replace(s, "1", "-1", 1)
	}
	return inKernel(s)
}

// P4.1
func TestNodes(t *testing.T) {
	for _, count := range []int{5, 6, 7, 100, 19999, 20000} {
		n := parsed(t, nodes(count))
		if got := parser.Count(n); got != count || !parser.Valid(n) {
			t.Errorf("%d nodes, not %d; Valid: %v", got, count, parser.Valid(n))
		}
	}
	for _, count := range []int{20001, 20002, 26000} {
		check(t, "\n\n"+nodes(count), 1, api.ErrLimit)
	}
	check(t, "\n"+nodes(26000)+"\n}", 3, api.ErrSyntax)
}

// levels returns sources whose trees have a number of levels, from 6 on, and the same sources with an error in line 2.
func levels(count int) [][2]string {
	repeat := strings.Repeat
	var list [][2]string
	for _, s := range []string{
		"x=" + repeat("-", count-5) + "a;",
		"x=" + repeat("~!", count/2)[:count-5] + "a;",
		"x=a" + repeat("-a", count-5) + ";",
		"x=a" + repeat(" as u8", count-5) + ";",
		"x=" + repeat("a?", count-5) + "b" + repeat(":c", count-5) + ";",
		"x=" + repeat("a?b:", count-5) + "c;",
		repeat("if a{}else ", count-5) + "if a{}",
	} {
		list = append(list, [2]string{inKernel(s), inKernel(s + "\n;")})
	}
	return list
}

// P4.1
func TestDepths(t *testing.T) {
	for _, count := range []int{6, 7, 100, 199, 200} {
		for _, s := range levels(count) {
			if n := parsed(t, s[0]); parser.Depth(n) != count || !parser.Valid(n) {
				t.Errorf("%.50s..: %d levels, not %d; Valid: %v", s[0], parser.Depth(n), count, parser.Valid(n))
			}
			check(t, s[1], 2, api.ErrSyntax)
		}
	}
	for _, count := range []int{201, 202, 1000, 5000} {
		for _, s := range levels(count) {
			check(t, "\n"+s[0], 1, api.ErrLimit)
			check(t, s[1], 2, api.ErrSyntax)
		}
	}
}

// P4.1, R1: the deepest trees that sources have, and sources that end in their midst.
func TestDeepSources(t *testing.T) {
	for _, piece := range []string{"-", "~", "a-", "a<<", "a?", "a?b:", "a||b&&", "1<"} {
		s := "kernel k(){x="
		s += strings.Repeat(piece, (api.MaxSource-len(s))/len(piece))
		check(t, s, 1, api.ErrSyntax)
	}
	for _, c := range [][3]string{{"-", "a", ""}, {"a*", "a", ""}, {"a?b:", "a", ""}, {"a?", "a", ":b"}, {"", "a", " as u1"}} {
		count := (api.MaxSource - 20) / len(c[0]+c[2])
		check(t, inKernel("x="+strings.Repeat(c[0], count)+c[1]+strings.Repeat(c[2], count)+";"), 1, api.ErrLimit)
	}
	s := strings.Repeat("if a{}else ", 5000)
	check(t, inKernel(s+"if a{}"), 1, api.ErrLimit)
	check(t, inKernel(s), 1, api.ErrSyntax)
}

// P4.1, R5: which error comes first where there are several.
func TestFirstError(t *testing.T) {
	const lexical, syntactic = "@", "\n}\n"
	open := "\n" + strings.Repeat("[", 201)
	check(t, nodes(20001)+lexical, 1, api.ErrSyntax)
	check(t, open+"\n"+lexical, 3, api.ErrSyntax)
	check(t, syntactic+open, 4, api.ErrLimit)
	check(t, nodes(20001)+syntactic, 2, api.ErrSyntax)
	check(t, nodes(20001)+open, 2, api.ErrLimit)
	check(t, syntactic+syntactic, 2, api.ErrSyntax)
	check(t, "\n"+syntactic+nodes(20001), 3, api.ErrSyntax)
	check(t, strings.Repeat("\n", api.MaxSource)+open, 65537, api.ErrLimit)
	// Both limits of trees are one error.
	check(t, "\n"+strings.TrimSuffix(nodes(20001), "}")+levels(201)[0][0][len("kernel k() {"):], 1, api.ErrLimit)
}

// tower returns a tree of unary operators with a number of levels.
func tower(count int) api.Node {
	n := api.Node{Kind: api.NodeName, Name: "a"}
	for range count - 5 {
		n = api.Node{Kind: api.NodeUnary, Op: api.SrcNot, Kids: []api.Node{n}}
	}
	n = api.Node{Kind: api.NodeBlock, Kids: []api.Node{{Kind: api.NodeReturn, Kids: []api.Node{n}}}}
	return api.Node{Kind: api.NodeProgram, Kids: []api.Node{{Kind: api.NodeKernel, Name: "k", Kids: []api.Node{n}}}}
}

// row returns a tree with a number of nodes on three levels, and one with long names if name is long.
func row(count int, name string) api.Node {
	n := api.Node{Kind: api.NodeBlock}
	for range count - 3 {
		n.Kids = append(n.Kids, api.Node{Kind: api.NodeVar, Name: name, Type: api.Type{Width: 8}})
	}
	return api.Node{Kind: api.NodeProgram, Kids: []api.Node{{Kind: api.NodeKernel, Name: "k", Kids: []api.Node{n}}}}
}

// P4.1: Valid looks at the numbers of nodes and levels, but not at the length of a source.
func TestValidLimits(t *testing.T) {
	long := strings.Repeat("n", 64)
	for _, c := range []struct {
		n            api.Node
		count, depth int
		valid        bool
		e            api.Errno
	}{
		{tower(200), 200, 200, true, api.OK}, {tower(201), 201, 201, false, api.ErrForm}, {tower(65536), 65536, 65536, false, api.ErrForm},
		{row(5000, "a"), 5000, 4, true, api.OK}, {row(20000, "a"), 20000, 4, true, api.ErrLimit}, {row(20000, long), 20000, 4, true, api.ErrLimit}, {row(20001, "a"), 20001, 4, false, api.ErrForm}, {row(100000, "a"), 100000, 4, false, api.ErrForm},
		{row(903, long), 903, 4, true, api.OK}, {row(953, long), 953, 4, true, api.ErrLimit},
	} {
		if count, depth := parser.Count(c.n), parser.Depth(c.n); count != c.count || depth != c.depth {
			t.Errorf("%d nodes, %d levels, not %d and %d", count, depth, c.count, c.depth)
		}
		if got := parser.Valid(c.n); got != c.valid {
			t.Errorf("Valid of %d nodes on %d levels: %v", c.count, c.depth, got)
		}
		s, e := parser.Format(c.n)
		if e != c.e || e != api.OK && s != "" {
			t.Errorf("Format of %d nodes on %d levels: %d, %.20q", c.count, c.depth, e, s)
		}
		if e == api.OK && !reflect.DeepEqual(bared(parsed(t, s)), c.n) {
			t.Errorf("Parse of Format of %d nodes on %d levels is another tree", c.count, c.depth)
		}
	}
}

// P4.1, R1: a tree whose levels share their Kids has more nodes than can be counted.
func TestSharedKids(t *testing.T) {
	n := api.Node{Kind: api.NodeName, Name: "a"}
	for range 190 {
		n = api.Node{Kind: api.NodeBinary, Op: api.SrcAdd, Kids: []api.Node{n, n}}
	}
	tree := tower(5)
	tree.Kids[0].Kids[0].Kids[0].Kids[0] = n
	if s, e := parser.Format(tree); parser.Valid(tree) || s != "" || e != api.ErrForm {
		t.Errorf("Valid: %v; Format: %q, %d", parser.Valid(tree), s, e)
	}
}
