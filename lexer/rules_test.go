package lexer_test

import (
	"slices"
	"strings"
	"testing"
	"unsafe"

	"jacquard/api"
	"jacquard/lexer"
)

// shares reports whether two strings have bytes in common memory.
func shares(a, b string) bool {
	from, start := uintptr(unsafe.Pointer(unsafe.StringData(a))), uintptr(unsafe.Pointer(unsafe.StringData(b)))
	return len(a) > 0 && len(b) > 0 && from < start+uintptr(len(b)) && start < from+uintptr(len(a))
}

// P3.1, R2 and R3: the results of Lex belong to the caller, and do not keep the source.
func TestTokensAreNew(t *testing.T) {
	source := strings.Clone(program)
	first, _, e := lexer.Lex(source)
	want := slices.Clone(first)
	for _, token := range first {
		if shares(token.Text, source) {
			t.Fatalf("%q is a part of the argument", token.Text)
		}
	}
	clear(first[:cap(first)])
	second, at, again := lexer.Lex(source)
	if e != api.OK || again != api.OK || at != len(program) || !slices.Equal(second, want) || source != program {
		t.Errorf("the second call: %v, %d, %d", second, at, again)
	}
}

// P3.1, R3: Join changes no token, and nothing behind the last one.
func TestJoinKeepsItsArgument(t *testing.T) {
	all, _, e := lexer.Lex(program)
	want := slices.Clone(all)
	for size := range all {
		joined := lexer.Join(all[:size])
		if joined != lexer.Join(want[:size:size]) {
			t.Fatalf("%d tokens: %q", size, joined)
		}
		if size > 0 && shares(joined, all[0].Text) {
			t.Fatalf("%q is a part of the argument", joined)
		}
	}
	if e != api.OK || !slices.Equal(all, want) {
		t.Errorf("the tokens have become %v", all)
	}
}

// P3.1, R2: a source that is not well formed leaves nothing behind.
func TestCallsAreIndependent(t *testing.T) {
	want, _, _ := lexer.Lex(program)
	for s := range rows(listOfPieces(), 2) {
		lexer.Lex("\n\n" + s)
	}
	if got, at, e := lexer.Lex(program); e != api.OK || at != len(program) || !slices.Equal(got, want) {
		t.Errorf("%v, %d, %d", got, at, e)
	}
}
