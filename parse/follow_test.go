package parse_test

import (
	"strings"
	"testing"

	"brazier/api"
	"brazier/lex"
	"brazier/parse"
)

// walk calls f with each node of a tree.
func walk(n api.Node, f func(n api.Node)) {
	f(n)
	for _, k := range n.Kids {
		walk(k, f)
	}
}

func count(n api.Node) int {
	c := 0
	walk(n, func(api.Node) { c++ })
	return c
}

// P6.2: at most one node a byte, and one.
func TestCount(t *testing.T) {
	for s, want := range map[string]int{
		"": 1, ";": 2, "a;": 3, "-a;": 4, "a.b;": 5, "a+b;": 5, "{}": 2, ";;;;": 5, "a:;": 3, "a;b;": 5, "+-+-a;": 7, "a=b;": 5, "a?b:c;": 6,
		"for(;;);": 6, "if(a);": 5, "return;": 3, "let a;": 3, "[a,b];": 5, "f();": 4, "a[b];": 5, "x={a:b};": 8, "try{}finally{}": 5,
	} {
		n := fine(t, s)
		if got := count(n); got != want || got > len(s)+1 {
			t.Errorf("%s: %d nodes", s, got)
		}
	}
	s := strings.Repeat("a+b;", 16384)
	if got := count(fine(t, s)); got != len(s)+1 {
		t.Errorf("%d nodes of %d bytes", got, len(s))
	}
	made(80, 3000, 40, false, false, func(m *maker, _ api.Node) {
		s := packed(string(m.b))
		n, _, e := parse.Parse(s)
		if e == api.OK && count(n) > len(s)+1 {
			t.Errorf("%s: %d nodes, %d bytes", s, count(n), len(s))
		}
	})
}

// packed is a text without the blanks that it can do without.
func packed(s string) string {
	tokens, _, e := lex.Scan(s)
	if e != api.OK {
		return s
	}
	var b strings.Builder
	last := ""
	for i, t := range tokens[:len(tokens)-1] {
		text := strings.TrimSpace(strings.NewReplacer("/* ( */", " ", "// )\n", " ").Replace(s[t.At:tokens[i+1].At]))
		if both, _, e := lex.Scan(last + text); i > 0 && (e != api.OK || len(both) != 3) {
			b.WriteString(" ")
		}
		b.WriteString(text)
		last = text
	}
	return b.String()
}

// P6.2: all names of a tree stand in the text at their places; so do the keys behind a point.
func TestNamesStandThere(t *testing.T) {
	names := 0
	check := func(s string, at int, name string) {
		names++
		if !strings.HasPrefix(s[min(at, len(s)):], name) {
			t.Errorf("%s: no %s at %d", s, name, at)
		}
	}
	made(81, 2000, 40, false, false, func(m *maker, _ api.Node) {
		s := string(m.b)
		n, _, _ := parse.Parse(s)
		walk(n, func(n api.Node) {
			switch {
			case n.Kind == api.NodeName || n.Kind == api.NodeLabel:
				check(s, n.At, n.Name)
			case n.Kind == api.NodeMember && n.Op == ".":
				check(s, n.Kids[1].At, n.Kids[1].Name)
			}
		})
	})
	if names < 5000 {
		t.Error("too few names:", names)
	}
}

// moved is a tree whose places are what they are told to be.
func moved(n api.Node, to map[int]int) api.Node {
	if n.Kind == 0 {
		return n
	}
	var kids []api.Node
	for _, k := range n.Kids {
		kids = append(kids, moved(k, to))
	}
	n.At, n.Kids = to[n.At], kids
	return n
}

// P6.2: with more blanks between the tokens the tree is the same but for the places, and so is an error.
func TestMoreBlanks(t *testing.T) {
	done := 0
	check := func(m *maker, _ api.Node) {
		s := string(m.b)
		tokens, _, _ := lex.Scan(s)
		var b strings.Builder
		to, from := map[int]int{}, 0
		for _, token := range tokens {
			b.WriteString(s[from:token.At])
			b.WriteString(m.of("", " ", "\n", "\t \t", " /* a */", " // 'b\n", "\n/**/ "))
			from = token.At
			to[token.At] = b.Len()
		}
		more := b.String()
		n, at, e := parse.Parse(s)
		gotN, gotAt, gotE := parse.Parse(more)
		if e != api.OK {
			at = to[at]
		} else {
			done++
		}
		if told(gotN) != told(moved(n, to)) || gotAt != at || gotE != e {
			t.Fatalf("%s\n%s: %d at %d, want %d at %d", s, more, gotE, gotAt, e, at)
		}
	}
	made(82, 2000, 30, false, false, check)
	made(83, 1000, 30, true, false, check)
	if done < 500 {
		t.Error("too few trees:", done)
	}
}
