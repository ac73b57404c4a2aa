package lexer_test

import (
	"iter"
	"math/rand/v2"
	"strings"
)

// program has every keyword but for the names of types, every kind of token, and comments.
const program = `// Sums a stream.
fn twice(x: u8) -> u8 { return x * 2; }

kernel sum(n: u16, a: s32[64] cyclic 4, b: bool[0x10] blocks 2, c: u1[8] complete, q: in u8, r: out s8) -> u64 {
	var total: u64 = 0b0;
	let y = recv(q) as u64; // one word
	# pipeline 1 # unroll 2
	for i: u16 in 0 .. n { total = total + (y << 3) ^ ~y; a[i] = -total as s32 % 7 / 3; }
	while !(total >= 1 && total <= 5 || total != 4 == true) { total = total > 3 ? total >> 1 : total - 1; }
	if false { send r(twice(1) as s8 & 3 | 4); } else { total = 007; }
	return total;
}
// The end.`

// named are sources of the edge cases that the chapter names.
func named() []string {
	list := []string{
		"", " ", "\n", " \t\r\n", "//", "// the end", "a//", "a// b\n", "a // b\nc", "//\n//\n", "a/b", "a/ /b", "a///b\nc", "//\r a\rb\n1", "// \xff\x00@\n2",
		"a\r\nb", "a\rb", "\n\na\n\nb", "a\vb", "a\fb", "a\x00", "é", "aé", "1é", "\xff", "a\x80", "// é", "\ufeffa", "\u00a0", "x.y", "12u", ".", "...", "....",
		program, strings.ReplaceAll(program, "\n", "\r\n"), strings.ReplaceAll(program, " ", "// gap\n"), strings.ReplaceAll(program, " ", ""),
	}
	for _, size := range []int{63, 64, 65, 66, 200} {
		list = append(list, strings.Repeat("a", size), "1 "+strings.Repeat("_", size)+"+", "u8"+strings.Repeat("9", size-2), strings.Repeat("0", size), "0b"+strings.Repeat("1", size), "0x"+strings.Repeat("f", size))
	}
	return list
}

// pieces are parts of tokens, tokens, gaps, and bytes that begin no token.
const pieces = "a _ Z u s x b bool if in fn for u8 s64 u0 u65 0 1 9 0x 0b 0xF 08 ( ) { } [ ] , ; : = + - * / % & | ^ ~ ! < > ? # . .. -> << == // @ $ \" \x80 é 18446744073709551615 18446744073709551616"

func listOfPieces() []string {
	return append(strings.Split(pieces, " "), " ", "\n", "\r", "\t", "//\n")
}

// rows goes through all sources of exactly size pieces.
func rows(list []string, size int) iter.Seq[string] {
	return func(yield func(string) bool) {
		var extend func(s string, left int) bool
		extend = func(s string, left int) bool {
			if left == 0 {
				return yield(s)
			}
			for _, piece := range list {
				if !extend(s+piece, left-1) {
					return false
				}
			}
			return true
		}
		extend("", size)
	}
}

// pairs goes through all sources of one and of two bytes.
func pairs() iter.Seq[string] {
	var all []string
	for b := range 256 {
		all = append(all, string([]byte{byte(b)}))
	}
	return func(yield func(string) bool) {
		for size := range 3 {
			for s := range rows(all, size) {
				if !yield(s) {
					return
				}
			}
		}
	}
}

// mixed returns a source of pieces, most of which are separated.
func mixed(r *rand.Rand, list []string) string {
	var s strings.Builder
	for range r.IntN(40) {
		s.WriteString(list[r.IntN(len(list))])
		if r.IntN(8) > 0 {
			s.WriteString([]string{" ", "\n", "\t", "// a 1 @\n"}[r.IntN(4)])
		}
	}
	return s.String()
}

// samples goes through the named sources, short ones, and mixed ones, half of which have only pieces that are well formed.
func samples() iter.Seq[string] {
	all := listOfPieces()
	var good []string
	for _, piece := range all {
		if _, _, e := expected(piece); e == 0 {
			good = append(good, piece)
		}
	}
	return func(yield func(string) bool) {
		for _, s := range named() {
			if !yield(s) {
				return
			}
		}
		for _, part := range []iter.Seq[string]{pairs(), rows(all, 2), rows(strings.Split("0 1 2 x b a _ .", " "), 5), rows(strings.Split("< > = - / & a|\n", ""), 4)} {
			for s := range part {
				if !yield(s) {
					return
				}
			}
		}
		r := rand.New(rand.NewPCG(3, 1))
		for i := range 6000 {
			list := all
			if i%2 == 0 {
				list = good
			}
			if !yield(mixed(r, list)) {
				return
			}
		}
	}
}
