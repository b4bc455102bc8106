package lex

import (
	"strings"

	"brazier/api"
)

// blanks tells how many bytes of blanks s begins with, up to a remark that does not end.
func blanks(s string) (int, api.Errno) {
	at := 0
	for {
		n, ends := blank(s[at:])
		switch {
		case !ends:
			return at, api.ErrLexRemark
		case n == 0:
			return at, api.OK
		}
		at += n
	}
}

// blank tells how many bytes a remark, or a run of blank bytes, has that s begins with, and whether it ends.
func blank(s string) (int, bool) {
	switch {
	case strings.HasPrefix(s, "//"):
		return run(s, func(c rune) bool { return c != '\n' }), true
	case strings.HasPrefix(s, "/*"):
		n, ends := upToStarSlash(s[2:])
		return 2 + n, ends
	}
	return run(s, isBlank), true
}

func upToStarSlash(s string) (int, bool) {
	star, ended := false, false
	n := run(s, func(c rune) bool {
		if ended {
			return false
		}
		ended = star && c == '/'
		star = c == '*'
		return true
	})
	return n, ended
}
