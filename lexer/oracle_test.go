package lexer_test

import (
	"math/big"
	"regexp"
	"strings"

	"jacquard/api"
)

// The chapter's terms, once more: as regular expressions and numbers without a limit. Of the alternatives of an expression the first one that fits is taken, so that longer ones come first.
var (
	gapForm     = regexp.MustCompile(`^([ \t\r\n]|//[^\n]*)*`)
	wordForm    = regexp.MustCompile(`^[A-Za-z_][0-9A-Za-z_]*`)
	keywordForm = regexp.MustCompile(`^(as|blocks|complete|cyclic|else|false|fn|for|if|in|kernel|let|out|recv|return|send|true|var|while|bool|[us]([1-9]|[1-5][0-9]|6[0-4]))$`)
	digitForm   = regexp.MustCompile(`^[0-9]`)
	numberForm  = regexp.MustCompile(`^(0x([0-9a-fA-F]+)|0b([01]+)|([0-9]+))`)
	afterForm   = regexp.MustCompile(`^[0-9A-Za-z_]`)
	punctForm   = regexp.MustCompile(`^(->|\.\.|<<|>>|==|!=|<=|>=|&&|\|\||[(){}\[\],;:=+*/%&|^~!<>?#-])`)
)

// expected returns what Lex has to return.
func expected(source string) ([]api.Token, int, api.Errno) {
	if len(source) > 65536 {
		return nil, 65536, api.ErrLimit
	}
	var list []api.Token
	at := len(gapForm.FindString(source))
	for at < len(source) {
		t, e := expectedFirst(source[at:])
		if e != api.OK {
			return nil, at, e
		}
		t.At = at
		t.Line = len(strings.Split(source[:at], "\n"))
		list = append(list, t)
		at += len(t.Text)
		at += len(gapForm.FindString(source[at:]))
	}
	return list, len(source), api.OK
}

func expectedFirst(rest string) (api.Token, api.Errno) {
	if digitForm.MatchString(rest) {
		return expectedNumber(rest)
	}
	if text := wordForm.FindString(rest); text != "" {
		return expectedWord(text)
	}
	if text := punctForm.FindString(rest); text != "" {
		return api.Token{Kind: api.TokenPunct, Text: text}, api.OK
	}
	return api.Token{}, api.ErrSyntax
}

func expectedWord(text string) (api.Token, api.Errno) {
	if len(text) > 64 {
		return api.Token{}, api.ErrLimit
	}
	if keywordForm.MatchString(text) {
		return api.Token{Kind: api.TokenKeyword, Text: text}, api.OK
	}
	return api.Token{Kind: api.TokenName, Text: text}, api.OK
}

func expectedNumber(rest string) (api.Token, api.Errno) {
	parts := numberForm.FindStringSubmatch(rest)
	if afterForm.MatchString(rest[len(parts[0]):]) {
		return api.Token{}, api.ErrSyntax
	}
	n := new(big.Int)
	for i, base := range []int{16, 2, 10} {
		if digits := parts[2+i]; digits != "" {
			n.SetString(digits, base)
		}
	}
	if n.BitLen() > 64 {
		return api.Token{}, api.ErrLimit
	}
	return api.Token{Kind: api.TokenNumber, Text: parts[0], Num: n.Uint64()}, api.OK
}
