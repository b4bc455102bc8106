package lex

import (
	"strconv"
	"strings"

	"brazier/api"
)

// quoted takes a string. That it says too much is told last, when nothing else in it is wrong.
func quoted(s string) (api.Token, int, api.Errno) {
	body, ends := withinQuotes(s)
	if !ends {
		return api.Token{}, 0, api.ErrLexString
	}
	text, ok := said(body)
	switch {
	case !ok:
		return api.Token{}, 0, api.ErrLexString
	case len(text) > api.MaxText:
		return api.Token{}, 0, api.ErrLexText
	}
	return api.Token{Kind: api.TokenString, Text: text}, len(body) + 2, api.OK
}

// withinQuotes tells what stands between the quote that s begins with and the next that is not behind a `\`, and whether there is one on that line.
func withinQuotes(s string) (string, bool) {
	quote, rest := rune(s[0]), s[1:]
	escaped, ended := false, false
	n := run(rest, func(c rune) bool {
		ended = c == quote && !escaped
		escaped = c == '\\' && !escaped
		return !ended && c != '\n'
	})
	return rest[:n], ended
}

// said is what a string's inner bytes say.
func said(body string) (string, bool) {
	var text strings.Builder
	for {
		n := run(body, func(c rune) bool { return c != '\\' })
		text.WriteString(body[:n])
		body = body[n:]
		if body == "" {
			return text.String(), true
		}
		c, n := escape(body)
		if n == 0 {
			return "", false
		}
		text.WriteByte(c)
		body = body[n:]
	}
}

// escape is the byte that is meant by the `\` that s begins with and what is behind it, and how many bytes stand for it: 0, if it is none.
func escape(s string) (byte, int) {
	if len(s) < 2 {
		return 0, 0
	}
	switch c := s[1]; c {
	case 'n':
		return '\n', 2
	case 't':
		return '\t', 2
	case '\\', '\'', '"':
		return c, 2
	case 'x':
		return hexByte(s)
	}
	return 0, 0
}

func hexByte(s string) (byte, int) {
	if len(s) < 4 {
		return 0, 0
	}
	n, err := strconv.ParseUint(s[2:4], 16, 8)
	if err != nil {
		return 0, 0
	}
	return byte(n), 4
}
