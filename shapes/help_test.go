package shapes_test

import (
	"fmt"
	"math"
	"slices"
	"testing"

	"brazier/shapes"
)

// refused: what a call that is refused is to tell.
const refused = -1

// call is one of the four that may make shapes, and what it is to tell.
type call struct {
	name  string
	shape int
	key   string
	flags int
	proto uint64
	want  int
}

// String writes keys so that any bytes can be read.
func (c call) String() string {
	return fmt.Sprintf("%s of shape %d, key %q, flags %d, prototype %d, that is to tell %d", c.name, c.shape, c.key, c.flags, c.proto, c.want)
}

func root(proto uint64, want int) call { return call{name: "Root", proto: proto, want: want} }

func add(shape int, key string, flags, want int) call {
	return call{name: "Add", shape: shape, key: key, flags: flags, want: want}
}

func change(shape int, key string, flags, want int) call {
	return call{name: "Change", shape: shape, key: key, flags: flags, want: want}
}

func move(shape int, proto uint64, want int) call {
	return call{name: "Move", shape: shape, proto: proto, want: want}
}

// do makes the call: what it tells, or refused (then the number beside it must be 0).
func (c call) do(t *testing.T, x *shapes.Tree) int {
	t.Helper()
	var n int
	var ok bool
	switch c.name {
	case "Root":
		n, ok = x.Root(c.proto)
	case "Add":
		n, ok = x.Add(c.shape, c.key, c.flags)
	case "Change":
		n, ok = x.Change(c.shape, c.key, c.flags)
	case "Move":
		n, ok = x.Move(c.shape, c.proto)
	}
	if ok {
		return n
	}
	if n != 0 {
		t.Errorf("%v is refused, with %d", c, n)
	}
	return refused
}

// seen is all that a tree tells of a shape.
type seen struct {
	proto uint64
	keys  []string
	flags []int
}

func (s seen) String() string { return fmt.Sprintf("{%d %q %d}", s.proto, s.keys, s.flags) }

func (s seen) same(o seen) bool {
	return s.proto == o.proto && slices.Equal(s.keys, o.keys) && slices.Equal(s.flags, o.flags)
}

// look is all that a tree tells; Find must tell each key's place among Keys.
func look(t *testing.T, x *shapes.Tree) []seen {
	t.Helper()
	var all []seen
	for n := range x.Count() {
		p, ok := x.Proto(n)
		if !ok {
			t.Errorf("Proto(%d) tells that it is not there", n)
		}
		s := seen{proto: p, keys: x.Keys(n)}
		for i, k := range s.keys {
			slot, flags, is := x.Find(n, k)
			if slot != i || !is {
				t.Errorf("Find(%d, %q) is %d, %v, not %d", n, k, slot, is, i)
			}
			s.flags = append(s.flags, flags)
		}
		all = append(all, s)
	}
	return all
}

// play makes calls, one behind the other: each tells what is wanted, and no shape that was there becomes another.
func play(t *testing.T, x *shapes.Tree, calls ...call) {
	t.Helper()
	for i, c := range calls {
		old := look(t, x)
		if got := c.do(t, x); got != c.want {
			t.Fatalf("call %d: %v tells %d", i, c, got)
		}
		now := look(t, x)
		if len(now) < len(old) || !slices.EqualFunc(now[:len(old)], old, seen.same) {
			t.Fatalf("call %d: %v: behind it %v, ahead of it %v", i, c, now, old)
		}
		more := 0
		if c.want == len(old) {
			more = 1
		}
		if c.name != "Move" && len(now) != len(old)+more {
			t.Fatalf("call %d: %v: there are %d behind %d", i, c, len(now), len(old))
		}
	}
}

// has tells that a shape is just so; keys and flags by turns.
func has(t *testing.T, x *shapes.Tree, shape int, proto uint64, props ...any) {
	t.Helper()
	want := seen{proto: proto}
	for i := 0; i < len(props); i += 2 {
		want.keys = append(want.keys, props[i].(string))
		want.flags = append(want.flags, props[i+1].(int))
	}
	all := look(t, x)
	if shape < 0 || shape >= len(all) || !all[shape].same(want) {
		t.Errorf("shape %d of %v is not %v", shape, all, want)
	}
}

// counts tells that there are so many.
func counts(t *testing.T, x *shapes.Tree, want int) {
	t.Helper()
	if got := x.Count(); got != want {
		t.Errorf("there are %d shapes, not %d", got, want)
	}
}

// absent are numbers that no shape of a tree has.
func absent(x *shapes.Tree) []int {
	n := x.Count()
	return []int{math.MinInt, math.MinInt + 1, -n - 1, -2, -1, n, n + 1, 2*n + 7, 1 << 32, math.MaxInt - 1, math.MaxInt}
}

// chance is a row of numbers that is always the same one.
type chance uint64

func (c *chance) below(n int) int {
	*c = *c*6364136223846793005 + 1442695040888963407
	return int(uint64(*c)>>33) % n
}

func one[T any](c *chance, l ...T) T { return l[c.below(len(l))] }

// name is a key by its number.
func name(n int) string { return fmt.Sprint("k", n) }
