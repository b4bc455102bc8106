package shapes_test

import (
	"fmt"
	"math"
	"slices"
	"testing"

	"brazier/shapes"
)

// model is a second reading of P11.1 and P11.2: shapes are told apart by all that led to them, written out.
type model struct {
	most  int
	known []string
	are   []seen
}

func (m *model) take(history string, is seen) int {
	if n := slices.Index(m.known, history); n >= 0 {
		return n
	}
	if len(m.known) >= m.most {
		return refused
	}
	m.known, m.are = append(m.known, history), append(m.are, is)
	return len(m.known) - 1
}

func (m *model) root(proto uint64) int {
	return m.take(fmt.Sprint(proto), seen{proto: proto})
}

func (m *model) add(shape int, key string, flags int) int {
	if shape < 0 || shape >= len(m.are) || slices.Contains(m.are[shape].keys, key) {
		return refused
	}
	s := m.are[shape]
	s.keys, s.flags = append(slices.Clone(s.keys), key), append(slices.Clone(s.flags), flags)
	return m.take(fmt.Sprintf("%s, add %q %d", m.known[shape], key, flags), s)
}

func (m *model) change(shape int, key string, flags int) int {
	if shape < 0 || shape >= len(m.are) || !slices.Contains(m.are[shape].keys, key) {
		return refused
	}
	s := m.are[shape]
	at := slices.Index(s.keys, key)
	if s.flags[at] == flags {
		return shape
	}
	s.flags = slices.Clone(s.flags)
	s.flags[at] = flags
	return m.take(fmt.Sprintf("%s, change %q %d", m.known[shape], key, flags), s)
}

func (m *model) move(shape int, proto uint64) int {
	if shape < 0 || shape >= len(m.are) {
		return refused
	}
	s := m.are[shape]
	at := m.root(proto)
	for i, k := range s.keys {
		at = m.add(at, k, s.flags[i]) // of a refused one it is refused too
	}
	return at
}

func (m *model) do(c call) int {
	switch c.name {
	case "Root":
		return m.root(c.proto)
	case "Add":
		return m.add(c.shape, c.key, c.flags)
	case "Change":
		return m.change(c.shape, c.key, c.flags)
	}
	return m.move(c.shape, c.proto)
}

// anyCall: a call by chance, of the shapes that there are, mostly.
func anyCall(c *chance, count int) call {
	key := one(c, "a", "b", "c", "d", "", "\x00", "\xff")
	flags := one(c, 7, 7, 3, 0, -1, math.MinInt, math.MaxInt)
	proto := one(c, uint64(7), 7, 8, 0, math.MaxUint64)
	shape := one(c, -1, count, count+1, math.MinInt, math.MaxInt)
	if count > 0 && c.below(20) > 0 {
		shape = c.below(count)
	}
	switch c.below(8) {
	case 0:
		return root(proto, 0)
	case 1, 2, 3:
		return add(shape, key, flags, 0)
	case 4, 5:
		return change(shape, key, flags, 0)
	}
	return move(shape, proto, 0)
}

// P11.1 to P11.4: calls by chance, against a second reading; the same calls of another tree tell the same (R6).
func TestAgainstModel(t *testing.T) {
	c := chance(111)
	for range 400 {
		most := one(&c, -1, 0, 1, 2, 5, 9, 20, 60, 1<<40)
		m := &model{most: most}
		x, twin := shapes.New(most), shapes.New(most)
		for range 150 {
			k := anyCall(&c, x.Count())
			k.want = m.do(k)
			if got, again := k.do(t, x), k.do(t, twin); got != k.want || again != got {
				t.Fatalf("of at most %d, %q: %v tells %d, then %d", most, m.known, k, got, again)
			}
			if most >= 0 && x.Count() > most || most < 0 && x.Count() > 0 {
				t.Fatalf("there are %d of at most %d", x.Count(), most)
			}
			if x.Count() != len(m.known) {
				t.Fatalf("%v: there are %d, not %q", k, x.Count(), m.known)
			}
		}
		if got := look(t, x); !slices.EqualFunc(got, m.are, seen.same) {
			t.Fatalf("%q: %v, not %v", m.known, got, m.are)
		}
	}
}

// P11.4: the same steps again: each comes to its shape, and there are no more; also in a tree that takes no more than these.
func TestSameStepsAgain(t *testing.T) {
	c := chance(112)
	for range 100 {
		x := shapes.New(math.MaxInt)
		var calls []call
		for range 100 {
			k := anyCall(&c, x.Count())
			if k.want = k.do(t, x); k.want != refused {
				calls = append(calls, k)
			}
		}
		count := x.Count()
		full := shapes.New(count)
		for _, y := range []*shapes.Tree{x, full, full, x} {
			for _, k := range calls {
				if got := k.do(t, y); got != k.want {
					t.Fatalf("%v tells %d then", k, got)
				}
			}
			counts(t, y, count)
		}
	}
}

// P11.2, P11.3: many keys, in one order and the other, with a change of each: what a shape takes must not hang on how many it has.
func TestManyKeys(t *testing.T) {
	const n = 2500
	x := shapes.New(math.MaxInt)
	play(t, x, root(7, 0))
	at, ok := 0, true
	for i := range n {
		if at, ok = x.Add(at, name(i), i); at != i+1 || !ok {
			t.Fatal("add", i, at, ok)
		}
	}
	for i := range n {
		if at, ok = x.Change(at, name(i), -i); !ok || i == 0 && at != n || i > 0 && at != n+i {
			t.Fatal("change", i, at, ok)
		}
	}
	for i := range n {
		if slot, flags, is := x.Find(n, name(i)); slot != i || flags != i || !is {
			t.Fatal("find ahead of the changes", i, slot, flags, is)
		}
		if slot, flags, is := x.Find(at, name(i)); slot != i || flags != -i || !is {
			t.Fatal("find", i, slot, flags, is)
		}
		if _, _, is := x.Find(i, name(i)); is {
			t.Fatal("found too early", i)
		}
	}
	count := x.Count()
	to, ok := x.Move(at, 8)
	if to != count+n || !ok || x.Count() != count+n+1 {
		t.Fatal("move", to, ok, x.Count())
	}
	if got := x.Keys(to); len(got) != n || got[0] != name(0) || got[n-1] != name(n-1) || !slices.Equal(got, x.Keys(at)) {
		t.Error("keys of the moved")
	}
	if _, flags, _ := x.Find(to, name(n-1)); flags != 1-n {
		t.Error("flags of the moved", flags)
	}
}
