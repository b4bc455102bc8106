package parse

import (
	"slices"

	"brazier/api"
)

// fault is what is thrown when something is amiss.
type fault struct {
	at   int
	code api.Errno
}

// reader goes through a text's tokens from the left. TokenEnd is never passed, so one always stands there.
type reader struct {
	tokens []api.Token // those that are not yet passed
	depth  int         // how many of those that are counted are being read, one within the other
	star   bool        // the innermost function has a *
}

func (r *reader) now() api.Token { return r.tokens[0] }

func (r *reader) next() api.Token {
	t := r.tokens[0]
	r.tokens = r.tokens[1:]
	return t
}

// wrong throws an error of the token that stands there.
func (r *reader) wrong(code api.Errno) { panic(fault{r.now().At, code}) }

// fixed tells a word's or a sign's text; of other tokens, whatever they say, nothing.
func fixed(t api.Token) string {
	if t.Kind == api.TokenWord || t.Kind == api.TokenSign {
		return t.Text
	}
	return ""
}

// is tells whether one of these words and signs stands there.
func (r *reader) is(texts ...string) bool { return slices.Contains(texts, fixed(r.now())) }

// aheadOf tells whether that sign stands behind the token that stands there, which is not the last one.
func (r *reader) aheadOf(sign string) bool { return fixed(r.tokens[1]) == sign }

// take passes a word or sign, if it stands there.
func (r *reader) take(text string) bool {
	is := r.is(text)
	if is {
		r.next()
	}
	return is
}

func (r *reader) expect(text string) {
	if !r.take(text) {
		r.wrong(api.ErrParseForm)
	}
}

func (r *reader) isName() bool { return r.now().Kind == api.TokenName }

func (r *reader) name() string {
	if !r.isName() {
		r.wrong(api.ErrParseForm)
	}
	return r.next().Text
}

// in goes one further in, and answers how to go out again. Where the token can't begin what is to be read, nothing begins, so nothing is too deep either.
func (r *reader) in(begins bool) (out func()) {
	if !begins {
		r.wrong(api.ErrParseForm)
	}
	if r.depth == api.MaxDepth {
		r.wrong(api.ErrParseDeep)
	}
	r.depth++
	return func() { r.depth-- }
}

// list reads what stands between two signs, parted by commas; it may be nothing.
func (r *reader) list(open, shut string, one func() api.Node) []api.Node {
	r.expect(open)
	if r.take(shut) {
		return nil
	}
	l := []api.Node{one()}
	for r.take(",") {
		l = append(l, one())
	}
	r.expect(shut)
	return l
}
