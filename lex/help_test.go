package lex_test

import (
	"math"
	"regexp"
	"slices"
	"strconv"
	"strings"
	"testing"

	"brazier/api"
	"brazier/lex"
)

// signs and kept are the chapter's own lists.
const (
	signs = ">>>= === !== <<= >>= >>> == != <= >= ++ -- << >> && || += -= *= /= %= &= |= ^= ( ) { } [ ] ; , . : ? = < > + - * / % & | ^ ~ !"
	kept  = "break catch const continue delete else false finally for function if in instanceof let new null return this throw true try typeof undefined void while yield"
)

func name(at int, s string) api.Token   { return api.Token{Kind: api.TokenName, At: at, Text: s} }
func word(at int, s string) api.Token   { return api.Token{Kind: api.TokenWord, At: at, Text: s} }
func sign(at int, s string) api.Token   { return api.Token{Kind: api.TokenSign, At: at, Text: s} }
func quoted(at int, s string) api.Token { return api.Token{Kind: api.TokenString, At: at, Text: s} }
func end(at int) api.Token              { return api.Token{Kind: api.TokenEnd, At: at} }

func number(at int, f float64) api.Token {
	return api.Token{Kind: api.TokenNumber, At: at, Num: math.Float64bits(f)}
}

func short(s string) string {
	if len(s) > 80 {
		return strconv.Quote(s[:40]) + " .. " + strconv.Quote(s[len(s)-40:])
	}
	return strconv.Quote(s)
}

func scans(t *testing.T, s string, want ...api.Token) {
	t.Helper()
	if got, at, e := lex.Scan(s); e != api.OK || at != 0 || !slices.Equal(got, want) {
		t.Errorf("%s: %+v, %d, %d, want %+v", short(s), got, at, e, want)
	}
}

func wrong(t *testing.T, s string, at int, e api.Errno) {
	t.Helper()
	if l, gotAt, got := lex.Scan(s); len(l) > 0 || gotAt != at || got != e {
		t.Errorf("%s: %d tokens, %d, %d, want error %d at %d", short(s), len(l), gotAt, got, e, at)
	}
}

// chance tells the same numbers in each run.
type chance uint64

func (c *chance) next() uint64 {
	*c += 0x9e3779b97f4a7c15
	z := uint64(*c)
	z = (z ^ z>>30) * 0xbf58476d1ce4e5b9
	z = (z ^ z>>27) * 0x94d049bb133111eb
	return z ^ z>>31
}

func (c *chance) below(n int) int { return int(c.next() % uint64(n)) }

func (c *chance) of(l []string) string { return l[c.below(len(l))] }

// pieces are what texts are made of by chance: tokens, blanks, and parts of both, some of them wrong.
func pieces() []string {
	l := strings.Fields(signs + " " + kept)
	l = append(l, strings.Fields("a b x e E $ _ ab1 iff Let in1 thisthis aaaaaaaaaaaaaaaaaaaaaaaaaaaaaaaa 0 00 1 7 9 10 0x 0x1F 0xg 0X1 1.5 1.e 2e3 2E+3 2e-3 1e 0.5 123456789012345678901234567890 1e400 . .5")...)
	l = append(l, strings.Fields(`'a' "b" '' "" '"' "'" '\n' "\t\\" '\'' "\"" '\x41' "\xfF" '\x4' '\q' '\ ' " \ \x # @ /* */ // /**/ /*/ /***/`)...)
	return append(l, " ", "\t", "\n", "// x\n", "/* a\n * b */", "/*/*/", "  ", "\n\n")
}

// text is made of up to n pieces.
func (c *chance) text(n int) string {
	l := pieces()
	var b strings.Builder
	for range c.below(n + 1) {
		b.WriteString(c.of(l))
	}
	return b.String()
}

var (
	blankForm  = regexp.MustCompile(`^(?:[\t\n ]|//[^\n]*|(?s:/\*.*?\*/))*`)
	numberForm = regexp.MustCompile(`^(?:0x[0-9a-fA-F]+|(?:0|[1-9][0-9]*)(?:\.[0-9]+)?(?:[eE][+-]?[0-9]+)?)`)
	nameForm   = regexp.MustCompile(`^[A-Za-z_$][A-Za-z0-9_$]*`)
	stringForm = regexp.MustCompile(`^(?:'(?:[^'\\\n]|\\[nt\\'"]|\\x[0-9a-fA-F]{2})*'|"(?:[^"\\\n]|\\[nt\\'"]|\\x[0-9a-fA-F]{2})*")`)
	escapeForm = regexp.MustCompile(`\\(?:x..|.)`)
	behindForm = regexp.MustCompile(`^(?:[A-Za-z0-9_$]|\.[0-9])`)
)

// meant is what Scan is to tell of a text of a program's bytes, told by regular expressions.
func meant(s string) ([]api.Token, int, api.Errno) {
	var l []api.Token
	for at := 0; ; {
		at += len(blankForm.FindString(s[at:]))
		if at == len(s) {
			return append(l, end(at)), 0, api.OK
		}
		t, n, e := meantToken(s[at:])
		if e != api.OK {
			return nil, at, e
		}
		t.At = at
		l = append(l, t)
		at += n
	}
}

func meantToken(s string) (api.Token, int, api.Errno) {
	switch c := s[0]; {
	case strings.HasPrefix(s, "/*"):
		return api.Token{}, 0, api.ErrLexRemark
	case '0' <= c && c <= '9':
		return meantNumber(s)
	case nameForm.MatchString(s):
		n := nameForm.FindString(s)
		if len(n) > 32 {
			return api.Token{}, 0, api.ErrLexName
		}
		if slices.Contains(strings.Fields(kept), n) {
			return word(0, n), len(n), api.OK
		}
		return name(0, n), len(n), api.OK
	case c == '\'' || c == '"':
		return meantString(s)
	}
	long := ""
	for _, text := range strings.Fields(signs) {
		if strings.HasPrefix(s, text) && len(text) > len(long) {
			long = text
		}
	}
	if long == "" {
		return api.Token{}, 0, api.ErrLexSign
	}
	return sign(0, long), len(long), api.OK
}

func meantNumber(s string) (api.Token, int, api.Errno) {
	n := numberForm.FindString(s)
	// Behind a decimal's exponent, or digits base sixteen, a point begins a token of its own.
	ended := strings.ContainsAny(n, ".eExX")
	if b := behindForm.FindString(s[len(n):]); b != "" && (b[0] != '.' || !ended) {
		return api.Token{}, 0, api.ErrLexNumber
	}
	if hex, is := strings.CutPrefix(n, "0x"); is {
		n = "0x" + hex + "p0"
		f, _ := strconv.ParseFloat(n, 64)
		return number(0, f), len(hex) + 2, api.OK
	}
	f, _ := strconv.ParseFloat(n, 64)
	return number(0, f), len(n), api.OK
}

func meantString(s string) (api.Token, int, api.Errno) {
	q := stringForm.FindString(s)
	if q == "" {
		return api.Token{}, 0, api.ErrLexString
	}
	text := escapeForm.ReplaceAllStringFunc(q[1:len(q)-1], func(e string) string {
		switch e[1] {
		case 'n':
			return "\n"
		case 't':
			return "\t"
		case 'x':
			n, _ := strconv.ParseUint(e[2:], 16, 8)
			return string([]byte{byte(n)})
		}
		return e[1:]
	})
	if len(text) > 4096 {
		return api.Token{}, 0, api.ErrLexText
	}
	return quoted(0, text), len(q), api.OK
}
