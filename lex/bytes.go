package lex

// run tells how many bytes s begins with of which in says yes. In a program a byte is a rune; a rune of more bytes than one is none of a program's at its first byte already.
func run(s string, in func(c rune) bool) int {
	for i, c := range s {
		if !in(c) {
			return i
		}
	}
	return len(s)
}

// one is run, but goes no further than one byte.
func one(s string, in func(c rune) bool) int {
	met := false
	return run(s, func(c rune) bool {
		first := !met
		met = true
		return first && in(c)
	})
}

func inProgram(c rune) bool { return c == '\t' || c == '\n' || ' ' <= c && c <= '~' }

func isBlank(c rune) bool { return c == '\t' || c == '\n' || c == ' ' }

func isDigit(c rune) bool { return '0' <= c && c <= '9' }

func isHexDigit(c rune) bool { return isDigit(c) || 'a' <= c && c <= 'f' || 'A' <= c && c <= 'F' }

func isSmall(c rune) bool {
	return isDigit(c) || 'a' <= c && c <= 'z' || 'A' <= c && c <= 'Z' || c == '_' || c == '$'
}
