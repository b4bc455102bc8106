package lex

import (
	"strings"

	"brazier/api"
	"brazier/numtext"
)

// signs has each one ahead of those that it begins with, so that the first that fits is the longest.
var signs = [...]string{
	">>>=",
	"===", "!==", "<<=", ">>=", ">>>",
	"==", "!=", "<=", ">=", "++", "--", "<<", ">>", "&&", "||", "+=", "-=", "*=", "/=", "%=", "&=", "|=", "^=",
	"(", ")", "{", "}", "[", "]", ";", ",", ".", ":", "?", "=", "<", ">", "+", "-", "*", "/", "%", "&", "|", "^", "~", "!",
}

// token takes the one that s begins with, and tells how many bytes it has; where it stands is the caller's to say.
func token(s string) (api.Token, int, api.Errno) {
	switch {
	case one(s, isDigit) > 0:
		return number(s)
	case one(s, isSmall) > 0:
		return name(s)
	case s[0] == '\'' || s[0] == '"':
		return quoted(s)
	}
	return sign(s)
}

func number(s string) (api.Token, int, api.Errno) {
	n := numberLen(s)
	num, ok := numtext.Literal(s[:n])
	if !ok || one(s[n:], isSmall) > 0 {
		return api.Token{}, 0, api.ErrLexNumber
	}
	return api.Token{Kind: api.TokenNumber, Num: num}, n, api.OK
}

func numberLen(s string) int {
	if strings.HasPrefix(s, "0x") {
		return 2 + run(s[2:], isHexDigit)
	}
	n := run(s, isDigit)
	if dot := one(s[n:], func(c rune) bool { return c == '.' }); dot > 0 && one(s[n+dot:], isDigit) > 0 {
		n += dot + run(s[n+dot:], isDigit)
	}
	if e := one(s[n:], func(c rune) bool { return c == 'e' || c == 'E' }); e > 0 {
		n += e
		n += one(s[n:], func(c rune) bool { return c == '+' || c == '-' })
		n += run(s[n:], isDigit)
	}
	return n
}

func name(s string) (api.Token, int, api.Errno) {
	n := run(s, isSmall)
	switch {
	case n > api.MaxName:
		return api.Token{}, 0, api.ErrLexName
	case isKept(s[:n]):
		return api.Token{Kind: api.TokenWord, Text: s[:n]}, n, api.OK
	}
	return api.Token{Kind: api.TokenName, Text: s[:n]}, n, api.OK
}

func isKept(s string) bool {
	switch s {
	case "break", "catch", "const", "continue", "delete", "else", "false", "finally", "for",
		"function", "if", "in", "instanceof", "let", "new", "null", "return", "this",
		"throw", "true", "try", "typeof", "undefined", "void", "while", "yield":
		return true
	}
	return false
}

func sign(s string) (api.Token, int, api.Errno) {
	for _, text := range signs {
		if strings.HasPrefix(s, text) {
			return api.Token{Kind: api.TokenSign, Text: text}, len(text), api.OK
		}
	}
	return api.Token{}, 0, api.ErrLexSign
}
