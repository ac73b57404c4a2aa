package parser_test

import (
	"regexp"
	"slices"
	"strings"

	"jacquard/api"
	"jacquard/lexer"
)

// grammar is the chapter's, but for numbers with limits, which have a word for each of their ranges, and directives, which are at most one of each kind.
const grammar = `
program   = { function | kernel }
function  = "fn" NAME "(" [ scalar { "," scalar } ] ")" "->" TYPE block
scalar    = NAME ":" TYPE
kernel    = "kernel" NAME "(" [ param { "," param } ] ")" [ "->" TYPE ] block
param     = NAME ":" ( TYPE | "in" TYPE | "out" TYPE | TYPE "[" SIZE "]" [ division ] )
division  = ( "cyclic" | "blocks" ) SIZE | "complete"
block     = "{" { statement } "}"
statement = "var" NAME ":" TYPE [ "=" expr ] ";"
          | "let" NAME [ ":" TYPE ] "=" expr ";"
          | NAME "=" expr ";"
          | NAME "[" expr "]" "=" expr ";"
          | if
          | [ directives ] "for" NAME ":" TYPE "in" expr ".." expr block
          | [ directives ] "while" expr block
          | "send" NAME "(" expr ")" ";"
          | "return" expr ";"
if        = "if" expr block [ "else" ( block | if ) ]
directives = pipeline [ unroll ] | unroll [ pipeline ]
pipeline  = "#" "pipeline" [ INTERVAL ]
unroll    = "#" "unroll" [ TIMES ]
expr      = either [ "?" expr ":" expr ]
either    = both { "||" both }
both      = compare { "&&" compare }
compare   = bitor [ ( "==" | "!=" | "<" | "<=" | ">" | ">=" ) bitor ]
bitor     = bitxor { "|" bitxor }
bitxor    = bitand { "^" bitand }
bitand    = shift { "&" shift }
shift     = sum { ( "<<" | ">>" ) sum }
sum       = product { ( "+" | "-" ) product }
product   = cast { ( "*" | "/" | "%" ) cast }
cast      = unary { "as" TYPE }
unary     = ( "-" | "~" | "!" ) unary | primary
primary   = NUMBER | "true" | "false" | NAME | NAME "(" [ expr { "," expr } ] ")" | NAME "[" expr "]"
          | "recv" "(" NAME ")" | "(" expr ")"
`

// item is a part of a rule: a row of parts, a choice of parts, parts that may be repeated or left out, or a word: a token or the name of a rule.
type item struct {
	kind  byte // 'r', 'c', '{', '[', or 'w'
	parts []*item
	word  string
}

// rules reads the grammar.
func rules() map[string]*item {
	words := regexp.MustCompile(`"[^"]*"|[A-Za-z]+|[^\s"A-Za-z]`).FindAllString(grammar, -1)
	var choice func() *item
	row := func() *item {
		n := &item{kind: 'r'}
		for len(words) > 0 && !strings.Contains("|)]}", words[0]) && !(len(words) > 1 && words[1] == "=") {
			word := words[0]
			words = words[1:]
			if !strings.Contains("([{", word) {
				n.parts = append(n.parts, &item{kind: 'w', word: word})
				continue
			}
			inner := choice()
			words = words[1:]
			if word != "(" {
				inner = &item{kind: word[0], parts: []*item{inner}}
			}
			n.parts = append(n.parts, inner)
		}
		return n
	}
	choice = func() *item {
		n := &item{kind: 'c', parts: []*item{row()}}
		for len(words) > 0 && words[0] == "|" {
			words = words[1:]
			n.parts = append(n.parts, row())
		}
		return n
	}
	all := map[string]*item{}
	for len(words) > 0 {
		name := words[0]
		words = words[2:]
		all[name] = choice()
	}
	return all
}

// stack is what has to come yet; nil is the end.
type stack struct {
	top  *item
	rest *stack
}

// recognizer finds the first token that cannot follow. It keeps a stack for each way in which the tokens so far may begin a program.
type recognizer struct{ rules map[string]*item }

// ready goes from a stack to all those with a token on top, and to the end, to which it can lead without a token.
func (r recognizer) ready(s *stack, found func(*stack)) {
	if s == nil {
		found(nil)
		return
	}
	switch s.top.kind {
	case 'r':
		rest := s.rest
		for _, part := range slices.Backward(s.top.parts) {
			rest = &stack{part, rest}
		}
		r.ready(rest, found)
	case 'c':
		for _, part := range s.top.parts {
			r.ready(&stack{part, s.rest}, found)
		}
	case '{':
		r.ready(s.rest, found)
		r.ready(&stack{s.top.parts[0], s}, found)
	case '[':
		r.ready(s.rest, found)
		r.ready(&stack{s.top.parts[0], s.rest}, found)
	default:
		if rule := r.rules[s.top.word]; rule != nil {
			r.ready(&stack{rule, s.rest}, found)
		} else {
			found(s)
		}
	}
}

func matches(word string, t api.Token) bool {
	number := func(least uint64) bool {
		return t.Kind == api.TokenNumber && t.Num >= least && t.Num <= 1048576
	}
	switch word {
	case "NAME":
		return t.Kind == api.TokenName
	case "NUMBER":
		return t.Kind == api.TokenNumber
	case "TYPE":
		_, ok := lexer.Type(t.Text)
		return t.Kind == api.TokenKeyword && ok
	case "SIZE":
		return number(0)
	case "INTERVAL":
		return number(1)
	case "TIMES":
		return number(2)
	}
	return word == `"`+t.Text+`"`
}

// wrong returns the index of the first token that cannot follow, or len(tokens) if there is none, and whether the tokens are a program.
func (r recognizer) wrong(tokens []api.Token) (int, bool) {
	stacks := []*stack{{&item{kind: 'w', word: "program"}, nil}}
	for i, t := range tokens {
		var next []*stack
		for _, s := range stacks {
			r.ready(s, func(s *stack) {
				if s != nil && matches(s.top.word, t) {
					next = append(next, s.rest)
				}
			})
		}
		if next == nil {
			return i, false
		}
		stacks = next
	}
	ended := false
	for _, s := range stacks {
		r.ready(s, func(s *stack) { ended = ended || s == nil })
	}
	return len(tokens), ended
}

// expected returns the line and the error that Parse has to return for a source whose tree is within the limits.
func (r recognizer) expected(source string) (int, api.Errno) {
	tokens, at, e := lexer.Lex(source)
	if e != api.OK {
		return len(strings.Split(source[:at], "\n")), e
	}
	open := 0
	for _, t := range tokens {
		if strings.Contains("([{", t.Text) {
			open++
		} else if strings.Contains(")]}", t.Text) && open > 0 {
			open--
		}
		if open > 200 {
			return t.Line, api.ErrLimit
		}
	}
	i, ended := r.wrong(tokens)
	if ended {
		return 0, api.OK
	}
	return tokens[min(i, len(tokens)-1)].Line, api.ErrSyntax
}
