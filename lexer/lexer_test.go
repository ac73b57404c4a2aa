package lexer_test

import (
	"slices"
	"strings"
	"testing"

	"jacquard/api"
	"jacquard/lexer"
)

// P3.1
func TestLex(t *testing.T) {
	for s := range samples() {
		got, at, e := lexer.Lex(s)
		want, wantAt, wantE := expected(s)
		if e != wantE || at != wantAt || !slices.Equal(got, want) {
			t.Fatalf("Lex(%q) = %v, %d, %d, not %v, %d, %d", s, got, at, e, want, wantAt, wantE)
		}
	}
}

// P3.1: the chapter's examples.
func TestExamples(t *testing.T) {
	got, at, e := lexer.Lex("a<<=0x1F // c")
	want := []api.Token{
		{Kind: api.TokenName, Text: "a", Line: 1},
		{Kind: api.TokenPunct, Text: "<<", At: 1, Line: 1},
		{Kind: api.TokenPunct, Text: "=", At: 3, Line: 1},
		{Kind: api.TokenNumber, Text: "0x1F", Num: 31, At: 4, Line: 1},
	}
	if e != api.OK || at != 13 || !slices.Equal(got, want) {
		t.Errorf("%v, %d, %d", got, at, e)
	}
	checkError(t, "x.y", 1, api.ErrSyntax)
	checkError(t, "12u", 0, api.ErrSyntax)
}

// checkError reports a source that does not have the error at the offset.
func checkError(t *testing.T, s string, at int, want api.Errno) {
	t.Helper()
	if list, got, e := lexer.Lex(s); list != nil || got != at || e != want {
		t.Errorf("Lex(%.80q): %v, %d, %d, not %d, %d", s, list, got, e, at, want)
	}
}

// texts returns the texts of the tokens of s, separated by spaces, after a check that all of them are of a kind.
func texts(t *testing.T, s string, kind int) string {
	t.Helper()
	list, at, e := lexer.Lex(s)
	if at != len(s) || e != api.OK {
		t.Errorf("Lex(%.80q): %d, %d", s, at, e)
	}
	var words []string
	for _, token := range list {
		if token.Kind != kind {
			t.Errorf("Lex(%.80q): %q has the kind %d, not %d", s, token.Text, token.Kind, kind)
		}
		words = append(words, token.Text)
	}
	return strings.Join(words, " ")
}

// P3.1
func TestBlanksAndComments(t *testing.T) {
	for _, s := range []string{"", " ", "\t", "\r", "\n", "\r\n", " \t\r\n ", "//", "// end", "//\n", "//\r@ \n", " // @ é \xff \x00 \"\n\t//", "////", "// a // b"} {
		if list, at, e := lexer.Lex(s); len(list) != 0 || at != len(s) || e != api.OK {
			t.Errorf("Lex(%q): %v, %d, %d", s, list, at, e)
		}
	}
	for _, s := range []string{"a b", "a\tb", "a\rb", "a\nb", "a\r\nb", "a//\nb", "a// c\r d \n b// e", " a // \x80\n// \n\tb "} {
		if got := texts(t, s, api.TokenName); got != "a b" {
			t.Errorf("Lex(%q): %s", s, got)
		}
	}
	if got := texts(t, "/ / /+ */", api.TokenPunct); got != "/ / / + * /" {
		t.Error(got)
	}
}

// P3.1: a line ends with a line feed, and with nothing else.
func TestLines(t *testing.T) {
	const s = "a b\r\nc // d\n\n\n\t e\rf\n// g\n1\r\r<<;\n"
	list, _, e := lexer.Lex(s)
	var lines, offsets []int
	for _, token := range list {
		lines = append(lines, token.Line)
		offsets = append(offsets, token.At)
	}
	if e != api.OK || !slices.Equal(lines, []int{1, 1, 2, 5, 5, 7, 7, 7}) || !slices.Equal(offsets, []int{0, 2, 5, 16, 18, 25, 28, 30}) {
		t.Errorf("lines %v, offsets %v, %d", lines, offsets, e)
	}
}

// P3.1
func TestPunctuation(t *testing.T) {
	for s, want := range map[string]string{
		"-> .. << >> == != <= >= && || ( ) { } [ ] , ; : = + - * / % & | ^ ~ ! < > ? #": "-> .. << >> == != <= >= && || ( ) { } [ ] , ; : = + - * / % & | ^ ~ ! < > ? #",
		"->..<<>>==!=<=>=&&||(){}[],;:=+-*/%&|^~!<>?#":                                  "-> .. << >> == != <= >= && || ( ) { } [ ] , ; : = + - * / % & | ^ ~ ! < > ? #",
		"<<=": "<< =", ">>=": ">> =", "<<<": "<< <", ">>>": ">> >", "===": "== =", "!==": "!= =", "=!=": "= !=", "<=>": "<= >", "=<=": "= <=", "=>": "= >", "><": "> <", "<>": "< >",
		"-->": "- ->", "->>": "-> >", "->=": "-> =", "<-": "< -", "- >": "- >", "&&&": "&& &", "|||": "|| |", "&|": "& |", "!!=": "! !=", "....": ".. ..", "= =": "= =", "++": "+ +", "**": "* *", "~=": "~ =", "^=": "^ =", "::": ": :",
	} {
		if got := texts(t, s, api.TokenPunct); got != want {
			t.Errorf("Lex(%q): %s", s, got)
		}
	}
}

// P3.1: bytes that begin no token.
func TestNoToken(t *testing.T) {
	for _, s := range []string{".", "@", "$", "\"", "'", "\\", "`", "\x00", "\v", "\f", "\x1b", "\x7f", "\x80", "\xa0", "\xff", "é", "\u00a0", "\u2028", "\ufeff"} {
		checkError(t, s, 0, api.ErrSyntax)
		checkError(t, "a"+s, 1, api.ErrSyntax)
		checkError(t, "7"+s, 1, api.ErrSyntax)
		checkError(t, "// c\n <"+s+"b", 7, api.ErrSyntax)
	}
	checkError(t, "...", 2, api.ErrSyntax)
	checkError(t, "1.5", 1, api.ErrSyntax)
	checkError(t, ". .", 0, api.ErrSyntax)
}

const (
	keywords  = "as blocks complete cyclic else false fn for if in kernel let out recv return send true var while bool u1 s1 u7 s7 u8 s8 u9 s9 u10 s10 u63 s63 u64 s64"
	nearWords = "a _ A assert block blocksize completed cyclical elses falsehood fnord format iffy inn inline kernels letter outer recvs returned sender truth vary whiled boolean As IF Bool U8 S8 u s u0 s0 u65 s65 u99 u100 u640 u08 s01 u064 u8_ u8x u1s _u8 us8 t8 b1 x0 pipeline unroll e _1 a1b2 __"
)

// P3.1
func TestWords(t *testing.T) {
	if got := texts(t, keywords, api.TokenKeyword); got != keywords {
		t.Error(got)
	}
	if got := texts(t, nearWords, api.TokenName); got != nearWords {
		t.Error(got)
	}
}

// P3.1
func TestLongWords(t *testing.T) {
	for _, c := range []string{"a", "Z", "_", "u8", "if"} {
		longest := (c + strings.Repeat("0_xY", 16))[:64]
		if got := texts(t, longest, api.TokenName); got != longest {
			t.Error(got)
		}
		checkError(t, longest+"1", 0, api.ErrLimit)
		checkError(t, "+ "+longest+"_;", 2, api.ErrLimit)
		checkError(t, longest+longest+"é", 0, api.ErrLimit)
		checkError(t, longest+"é", 64, api.ErrSyntax)
	}
}

// P3.1
func TestNumbers(t *testing.T) {
	for s, want := range map[string]uint64{
		"0": 0, "7": 7, "10": 10, "00": 0, "007": 7, "08": 8, "0123456789": 123456789,
		"0x0": 0, "0x1F": 31, "0xaBcDeF": 0xABCDEF, "0x0b1": 0xb1, "0xb": 11, "0x00000000000000000000000a": 10,
		"0b0": 0, "0b1": 1, "0b101": 5, "0b00000000000000000000000000000000000000000000000000000000000000000000011": 3,
		"18446744073709551615": 1<<64 - 1, "00018446744073709551615": 1<<64 - 1, "0xffffffffffffffff": 1<<64 - 1, "0x0FFFFFFFFFFFFFFFF": 1<<64 - 1, "9223372036854775808": 1 << 63,
		"0b" + strings.Repeat("1", 64): 1<<64 - 1, "0b1" + strings.Repeat("0", 63): 1 << 63, strings.Repeat("0", 1000) + "9": 9,
	} {
		list, at, e := lexer.Lex(s)
		if e != api.OK || at != len(s) || !slices.Equal(list, []api.Token{{Kind: api.TokenNumber, Text: s, Num: want, Line: 1}}) {
			t.Errorf("Lex(%q): %v, %d, %d", s, list, at, e)
		}
	}
	if got := texts(t, "1 2\t0x3//4\n0b1", api.TokenNumber); got != "1 2 0x3 0b1" {
		t.Error(got)
	}
	list, _, e := lexer.Lex("0..9-1")
	if e != api.OK || len(list) != 5 || list[1].Text != ".." || list[2].Num != 9 || list[4].Num != 1 {
		t.Error(list, e)
	}
}

// P3.1
func TestMalformedNumbers(t *testing.T) {
	for _, s := range []string{
		"0x", "0b", "0x ", "0b;", "0xg", "0xG", "0xFG", "0x_1", "0b2", "0b_", "0ba", "0X1", "0B1", "0x0x1", "0b0b1", "00x1", "1x1",
		"1a", "1_", "1_000", "0_1", "0u", "12u", "8u8", "9if", "0b12", "0b1a", "0b01_", "0x1g", "0xFu", "0xF_", "1e5",
		"99999999999999999999u", "0x10000000000000000g", "0b1" + strings.Repeat("0", 64) + "2", "18446744073709551616_",
	} {
		checkError(t, s, 0, api.ErrSyntax)
		checkError(t, "a+\n"+s, 3, api.ErrSyntax)
	}
}

// P3.1
func TestGreatNumbers(t *testing.T) {
	for _, s := range []string{
		"18446744073709551616", "0018446744073709551616", "18446744073709551620", "36893488147419103232", "99999999999999999999", strings.Repeat("9", 1000),
		"0x10000000000000000", "0xFFFFFFFFFFFFFFFFF", "0b1" + strings.Repeat("0", 64), "0b" + strings.Repeat("1", 65),
	} {
		checkError(t, s, 0, api.ErrLimit)
		checkError(t, "x = "+s+"; é", 4, api.ErrLimit)
	}
}

// P3.1, R5: the first token that is wrong counts, whatever comes later.
func TestFirstError(t *testing.T) {
	long, great := strings.Repeat("a", 65), "18446744073709551616"
	checkError(t, "a "+long+" "+great+" 1u @", 2, api.ErrLimit)
	checkError(t, "a "+great+" "+long+" 1u @", 2, api.ErrLimit)
	checkError(t, "a 1u "+long+" "+great+" @", 2, api.ErrSyntax)
	checkError(t, "a @ "+long+" "+great+" 1u", 2, api.ErrSyntax)
	checkError(t, "// @ "+long+"\n\t0b", 72, api.ErrSyntax)
}

// P3.1
func TestSourceSize(t *testing.T) {
	for _, c := range []struct {
		piece  string
		tokens int
	}{{" ", 0}, {"\n", 0}, {";", 65536}, {"a\n", 32768}, {"1 // 2\n", 9363}, {"<<", 32768}} {
		s := strings.Repeat(c.piece, 65536)[:65536]
		list, at, e := lexer.Lex(s)
		if e != api.OK || at != 65536 || len(list) != c.tokens {
			t.Errorf("%q again and again: %d tokens, %d, %d", c.piece, len(list), at, e)
		}
		checkError(t, s+" ", 65536, api.ErrLimit)
		checkError(t, "@"+s, 65536, api.ErrLimit)
		checkError(t, s+s, 65536, api.ErrLimit)
	}
	comment := "//" + strings.Repeat("é", 32767)
	if list, at, e := lexer.Lex(comment); len(list) != 0 || at != 65536 || e != api.OK {
		t.Errorf("a long comment: %v, %d, %d", list, at, e)
	}
	digits := strings.Repeat("0", 65535) + "5"
	if list, at, e := lexer.Lex(digits); len(list) != 1 || list[0].Num != 5 || at != 65536 || e != api.OK {
		t.Errorf("a long number: %d tokens, %d, %d", len(list), at, e)
	}
	checkError(t, strings.Repeat("9", 65536), 0, api.ErrLimit)
	checkError(t, strings.Repeat("a", 65536), 0, api.ErrLimit)
	checkError(t, strings.Repeat(" ", 65535)+"@", 65535, api.ErrSyntax)
	checkError(t, comment+"\n", 65536, api.ErrLimit)
}

// P3.1: Join takes any tokens, not only those of Lex.
func TestJoin(t *testing.T) {
	for _, c := range []struct {
		texts []string
		want  string
	}{
		{nil, ""}, {[]string{}, ""}, {[]string{"a"}, "a"}, {[]string{""}, ""}, {[]string{"", ""}, " "}, {[]string{"a", "", "b"}, "a  b"},
		{[]string{"a", "<<", "=", "0x1F"}, "a << = 0x1F"}, {[]string{" a ", "\n", "\xff// b"}, " a  \n \xff// b"},
	} {
		var list []api.Token
		for i, text := range c.texts {
			list = append(list, api.Token{Kind: i - 1, Text: text, Num: 7, At: -i, Line: 3})
		}
		if got := lexer.Join(list); got != c.want {
			t.Errorf("Join(%q) = %q, not %q", c.texts, got, c.want)
		}
	}
	list, _, _ := lexer.Lex(strings.Repeat(";", api.MaxSource))
	if got := lexer.Join(list); got != strings.Repeat("; ", api.MaxSource)[:2*api.MaxSource-1] {
		t.Errorf("Join of the most tokens has %d bytes", len(got))
	}
}

// alike reports whether two lists have the same kinds, texts and numbers.
func alike(a, b []api.Token) bool {
	return slices.EqualFunc(a, b, func(x, y api.Token) bool { return x.Kind == y.Kind && x.Text == y.Text && x.Num == y.Num })
}

// P3.2
func TestJoinKeepsTokens(t *testing.T) {
	for s := range samples() {
		checkJoined(t, s)
	}
	// With one token more, what Join writes would be too long for Lex.
	checkJoined(t, strings.Repeat("<a", 16384))
	checkJoined(t, strings.Repeat("1 ", 32768))
}

func checkJoined(t *testing.T, s string) {
	t.Helper()
	list, _, _ := lexer.Lex(s)
	joined := lexer.Join(list)
	again, at, e := lexer.Lex(joined)
	if e != api.OK || at != len(joined) || !alike(list, again) {
		t.Fatalf("Lex(%.200q): the tokens of Join are %v, %d, %d", s, again, at, e)
	}
}

// P3.3
func TestOffsets(t *testing.T) {
	for s := range samples() {
		list, end, e := lexer.Lex(s)
		if e != api.OK {
			continue
		}
		before := 0
		for _, token := range append(list, api.Token{At: end}) {
			if token.At < before || token.At+len(token.Text) > len(s) || s[token.At:token.At+len(token.Text)] != token.Text {
				t.Fatalf("Lex(%q): %q does not stand at %d", s, token.Text, token.At)
			}
			if gap := s[before:token.At]; gapForm.FindString(gap) != gap {
				t.Fatalf("Lex(%q): %q is between two tokens", s, gap)
			}
			before = token.At + len(token.Text)
		}
	}
}
