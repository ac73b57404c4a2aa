package lexer

import (
	"slices"
	"strconv"

	"jacquard/api"
)

// IsKeyword reports whether a name is a keyword.
func IsKeyword(s string) bool {
	keywords := []string{
		"as", "blocks", "complete", "cyclic", "else", "false", "fn", "for", "if", "in",
		"kernel", "let", "out", "recv", "return", "send", "true", "var", "while",
	}
	_, isType := Type(s)
	return isType || slices.Contains(keywords, s)
}

// Type returns the type that a name denotes, and true; false if it denotes none.
func Type(s string) (api.Type, bool) {
	switch s {
	case "":
		return api.Type{}, false
	case "bool":
		return api.Type{Width: 1}, true
	}
	width, err := strconv.Atoi(s[1:])
	t := api.Type{Width: width, Signed: s[0] == 's'}
	// Atoi accepts signs and leading zeros, and nothing has looked at the first byte so far: only the name that the type gets is its name.
	if err != nil || TypeName(t) != s {
		return api.Type{}, false
	}
	return t, true
}

// TypeName returns the name of a type, "" for an invalid one.
func TypeName(t api.Type) string {
	if t.Width < 1 || t.Width > api.MaxWidth {
		return ""
	}
	letter := "u"
	if t.Signed {
		letter = "s"
	}
	return letter + strconv.Itoa(t.Width)
}
