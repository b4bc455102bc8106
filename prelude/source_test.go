package prelude_test

import (
	"crypto/sha256"
	"encoding/hex"
	"slices"
	"strings"
	"testing"

	"brazier/api"
	"brazier/code"
	"brazier/parse"
	"brazier/prelude"
)

// P16.1: the text, byte by byte; each line ends with a line feed.
func TestSource(t *testing.T) {
	want := ""
	for _, line := range lines() {
		want += line + "\n"
	}
	for range 2 {
		got := prelude.Source()
		if got != want {
			t.Fatalf("Source is\n%q, not\n%q", got, want)
		}
	}
}

// P16.1: the chapter's text by its digest, so that no slip of the lines above can go along with one of the program.
func TestSourceDigest(t *testing.T) {
	sum := sha256.Sum256([]byte(prelude.Source()))
	if got := hex.EncodeToString(sum[:]); got != "fe1f782415253e788c3f87d89444de46231f6b9a26f3b53cd4ceb4e94d5090b2" || len(prelude.Source()) != 1021 {
		t.Errorf("Source has %d bytes, digest %s", len(prelude.Source()), got)
	}
}

// P16.1: how its lines end.
func TestSourceLines(t *testing.T) {
	s := prelude.Source()
	if strings.Count(s, "\n") != len(lines()) || !strings.HasSuffix(s, "};\n") || strings.HasSuffix(s, "\n\n") || strings.ContainsAny(s, "\r\t") || strings.Contains(s, " \n") {
		t.Errorf("%q", s)
	}
	if s[0] != 'O' {
		t.Errorf("it begins with %q", s[0])
	}
}

// P16.1: what parse, scope and emit make of it, without an error; code that may be; the same each time.
func TestProgram(t *testing.T) {
	want := made(t, prelude.Source())
	for range 3 {
		p, e := prelude.Program()
		if e != api.OK || code.Check(p) != api.OK {
			t.Fatalf("error %d, check %d", e, code.Check(p))
		}
		if !same(p, want) {
			t.Fatal(unlike(p, want))
		}
	}
}

// P16.1: the program itself makes six functions, each once: those of the text.
func TestProgramFunctions(t *testing.T) {
	p := own(t)
	var heads []string
	for _, f := range p.Funcs[1:] {
		heads = append(heads, head(f))
	}
	slices.Sort(heads)
	if want := []string{"function 0", "function 1", "function 1", "function 3", "generator 0", "generator 0"}; !slices.Equal(heads, want) {
		t.Errorf("%q, not %q", heads, want)
	}
	if got := closures(p.Funcs[0]); !slices.Equal(got, []int{1, 2, 3, 4, 5, 6}) {
		t.Errorf("the program makes %v", got)
	}
	for i, f := range p.Funcs[1:] {
		if len(closures(f)) != 0 {
			t.Errorf("function %d makes %v", i+1, closures(f))
		}
	}
}

// head is what a function is, and how many parameters it has.
func head(f api.Func) string {
	kind := "function "
	if f.Generator {
		kind = "generator "
	}
	return kind + string(rune('0'+f.Params))
}

// closures are the functions that a function makes: rising.
func closures(f api.Func) []int {
	var made []int
	for _, i := range f.Code {
		if i.Op == api.OpClosure {
			made = append(made, i.B)
		}
	}
	slices.Sort(made)
	return made
}

// P16.1: all texts of the source are constants of its code.
func TestProgramTexts(t *testing.T) {
	has := map[string]bool{}
	for _, f := range own(t).Funcs {
		for _, c := range f.Consts {
			if c.IsText {
				has[c.Text] = true
			}
		}
	}
	n, _, e := parse.Parse(prelude.Source())
	if e != api.OK {
		t.Fatal(e)
	}
	texts := 0
	var walk func(n api.Node)
	walk = func(n api.Node) {
		if n.Kind == api.NodeString {
			texts++
			if !has[n.Name] {
				t.Errorf("%q is no constant", n.Name)
			}
		}
		for _, k := range n.Kids {
			walk(k)
		}
	}
	walk(n)
	if texts == 0 {
		t.Error("no texts")
	}
}

// P16.1, R5: what Program tells is the caller's own.
func TestProgramOwn(t *testing.T) {
	first, second := own(t), own(t)
	want := clone(second)
	if !scribble(first) {
		t.Error("two lists of an answer share memory")
	}
	if !same(second, want) || !same(own(t), want) {
		t.Error("two answers share memory")
	}
	if q, _, e := prelude.Joined(made(t, "")); e != api.OK || !same(api.Program{Funcs: q.Funcs[:ahead]}, want) {
		t.Error("what is joined shares memory with an answer:", e)
	}
}
