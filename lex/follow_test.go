package lex_test

import (
	"slices"
	"strings"
	"testing"

	"brazier/api"
	"brazier/lex"
)

// fineTexts calls f with texts, made by chance, of which Scan tells tokens.
func fineTexts(t *testing.T, f func(c *chance, s string, l []api.Token)) {
	c := chance(52)
	count := 0
	for range 20000 {
		s := c.text(10)
		if l, at, e := lex.Scan(s); e == api.OK && at == 0 {
			f(&c, s, l)
			count++
		}
	}
	if count < 3000 {
		t.Error("too few texts:", count)
	}
}

// P5.2: tokens rise, and do not lie over one another; what stands between them are blanks: each piece from one to the next is that token alone.
func TestRise(t *testing.T) {
	fineTexts(t, func(_ *chance, s string, l []api.Token) {
		last := l[len(l)-1]
		if last != end(len(s)) {
			t.Errorf("%q: ends with %+v", s, last)
		}
		if ahead := s[:l[0].At]; blankForm.FindString(ahead) != ahead {
			t.Errorf("%q: %q stands ahead of all", s, ahead)
		}
		for i, k := range l[:len(l)-1] {
			next := l[i+1].At
			if k.At >= next || k.Kind == api.TokenEnd {
				t.Fatalf("%q: %+v does not rise", s, l)
			}
			alone := s[k.At:next]
			want := k
			want.At = 0
			scans(t, alone, want, end(len(alone)))
			_, n, _ := meantToken(alone)
			if blankForm.FindString(alone[n:]) != alone[n:] {
				t.Errorf("%q: %q stands behind %+v", s, alone[n:], k)
			}
		}
	})
}

// P5.2: more blanks between two tokens change nothing but the places behind them.
func TestMoreBlanks(t *testing.T) {
	bytes := []string{" ", "\t", "\n", "  \n\t"}
	remarks := []string{"/**/", "/* a\n'b' */", "// c #\n", "/*/*/ ", " //\n"}
	fineTexts(t, func(c *chance, s string, l []api.Token) {
		var more strings.Builder
		want := slices.Clone(l)
		from := 0
		for i, k := range l {
			more.WriteString(s[from:k.At])
			from = k.At
			if k.At == 0 || c.below(3) > 0 {
				more.WriteString(c.of(bytes))
				if c.below(2) == 0 {
					more.WriteString(c.of(remarks))
				}
			} else if !strings.HasSuffix(more.String(), "/") {
				more.WriteString(c.of(remarks))
			}
			want[i].At = more.Len()
		}
		// A remark up to the end takes in what is put behind it.
		if tail := s[lastEnd(s, l):]; strings.Contains(tail, "//") {
			return
		}
		scans(t, more.String(), want...)
	})
}

// lastEnd is the place right behind the last token but TokenEnd.
func lastEnd(s string, l []api.Token) int {
	if len(l) < 2 {
		return 0
	}
	last := l[len(l)-2]
	_, n, _ := meantToken(s[last.At:])
	return last.At + n
}
