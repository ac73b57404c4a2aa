package lexer_test

import (
	"fmt"
	"math"
	"strings"
	"testing"

	"jacquard/api"
	"jacquard/lexer"
)

// noWords are strings that are no words at all.
func noWords() []string {
	return []string{
		"", " ", "if ", " if", "u8 ", " u8", "u 8", "u+8", "u-8", "s+1", "u8\n", "u8\x00", "if\x00", "if if", "bool,", "8", "8u", "08", "0", "u8.", "u0x8", "u1_0", "u1e1", "é", "ué", "\xff", "u\xff", "u\u0668",
		"u18446744073709551624", "u18446744073709551617", "s4294967304", "u" + strings.Repeat("0", 5000) + "8", "u" + strings.Repeat("8", 5000), strings.Repeat("if", 5000), keywords,
	}
}

// P3.1
func TestIsKeyword(t *testing.T) {
	for _, s := range strings.Fields(keywords) {
		if !lexer.IsKeyword(s) {
			t.Errorf("%q is a keyword", s)
		}
	}
	for _, s := range append(noWords(), strings.Fields(nearWords)...) {
		if lexer.IsKeyword(s) {
			t.Errorf("%q is no keyword", s)
		}
	}
	for s := range pairs() {
		if lexer.IsKeyword(s) != keywordForm.MatchString(s) {
			t.Errorf("IsKeyword(%q) = %v", s, !keywordForm.MatchString(s))
		}
	}
}

// P3.1
func TestTypesAndTheirNames(t *testing.T) {
	for _, signed := range []bool{false, true} {
		for w := 1; w <= 64; w++ {
			want := api.Type{Width: w, Signed: signed}
			name := fmt.Sprintf("%c%d", map[bool]rune{false: 'u', true: 's'}[signed], w)
			if got := lexer.TypeName(want); got != name {
				t.Errorf("TypeName(%v) = %q", want, got)
			}
			if got, ok := lexer.Type(name); !ok || got != want {
				t.Errorf("Type(%q) = %v, %v", name, got, ok)
			}
			if !lexer.IsKeyword(name) {
				t.Errorf("%q is a keyword", name)
			}
		}
		for _, w := range []int{math.MinInt, -64, -8, -1, 0, 65, 66, 100, 1<<32 + 8, math.MaxInt} {
			if got := lexer.TypeName(api.Type{Width: w, Signed: signed}); got != "" {
				t.Errorf("TypeName of the width %d = %q", w, got)
			}
		}
	}
	if got, ok := lexer.Type("bool"); !ok || got != (api.Type{Width: 1}) {
		t.Errorf("Type(bool) = %v, %v", got, ok)
	}
}

// P3.1
func TestNoTypes(t *testing.T) {
	list := append(noWords(), strings.Fields(nearWords)...)
	for _, s := range append(list, "as", "if", "in", "send", "true", "boo", "bools", "bool1") {
		if got, ok := lexer.Type(s); ok || got != (api.Type{}) {
			t.Errorf("Type(%q) = %v, %v", s, got, ok)
		}
	}
	for s := range pairs() {
		named := len(s) == 2 && strings.Contains("us", s[:1]) && s[1] >= '1' && s[1] <= '9'
		if got, ok := lexer.Type(s); ok != named || !ok && got != (api.Type{}) {
			t.Errorf("Type(%q) = %v, %v", s, got, ok)
		}
	}
}
