package shapes_test

import (
	"slices"
	"testing"

	"brazier/shapes"
)

// wrong asks every call of shapes that are not there: all are refused, and nothing is changed.
func wrong(t *testing.T, x *shapes.Tree) {
	t.Helper()
	old := look(t, x)
	for _, n := range absent(x) {
		for _, k := range []string{"", "a", "zz"} {
			play(t, x, add(n, k, 7, refused), add(n, k, 0, refused), change(n, k, 7, refused), change(n, k, 0, refused))
			if slot, flags, is := x.Find(n, k); slot != 0 || flags != 0 || is {
				t.Errorf("Find(%d, %q) is %d, %d, %v", n, k, slot, flags, is)
			}
		}
		for _, p := range []uint64{0, 7, 12345} {
			play(t, x, move(n, p, refused))
		}
		if p, is := x.Proto(n); p != 0 || is {
			t.Errorf("Proto(%d) is %d, %v", n, p, is)
		}
		if l := x.Keys(n); len(l) != 0 {
			t.Errorf("Keys(%d) is %q", n, l)
		}
	}
	if now := look(t, x); !slices.EqualFunc(now, old, seen.same) {
		t.Errorf("what is refused changes %v to %v", old, now)
	}
}

// P11.2, P11.3: shapes that are not there, in trees of no shape, of a few with room, of a few without.
func TestShapesThatAreNotThere(t *testing.T) {
	ahead := []call{root(7, 0), add(0, "a", 7, 1), add(1, "", 0, 2), change(2, "a", 0, 3)}
	for _, most := range []int{0, 4, 5, 100} {
		x := shapes.New(most)
		wrong(t, x)
		for _, c := range ahead[:min(most, len(ahead))] {
			play(t, x, c)
			wrong(t, x)
		}
	}
}

// P11.3: each key's slot and flags, however long ago it was added; a key that is not there, also if it is elsewhere.
func TestFind(t *testing.T) {
	x := shapes.New(100)
	play(t, x, root(7, 0), add(0, "a", 1, 1), add(1, "b", 2, 2), add(2, "c", 0, 3), change(3, "a", 4, 4), add(1, "d", 6, 5))
	find := func(shape int, key string, slot, flags int, is bool) {
		t.Helper()
		if s, f, i := x.Find(shape, key); s != slot || f != flags || i != is {
			t.Errorf("Find(%d, %q) is %d, %d, %v", shape, key, s, f, i)
		}
	}
	find(0, "a", 0, 0, false)
	find(0, "", 0, 0, false)
	find(1, "a", 0, 1, true)
	find(1, "b", 0, 0, false)
	find(3, "a", 0, 1, true)
	find(3, "b", 1, 2, true)
	find(3, "c", 2, 0, true)
	find(3, "d", 0, 0, false)
	find(3, "", 0, 0, false)
	find(4, "a", 0, 4, true)
	find(4, "b", 1, 2, true)
	find(4, "c", 2, 0, true)
	find(5, "a", 0, 1, true)
	find(5, "d", 1, 6, true)
	find(5, "b", 0, 0, false)
	find(5, "D", 0, 0, false)
	counts(t, x, 6)
}

// P11.3: Keys, by their slots; Proto; of a root no keys.
func TestKeysAndProto(t *testing.T) {
	x := shapes.New(100)
	play(t, x, root(7, 0), add(0, "b", 1, 1), add(1, "a", 2, 2), change(2, "b", 4, 3), add(3, "", 4, 4), move(4, 0, 8))
	for shape, want := range [][]string{nil, {"b"}, {"b", "a"}, {"b", "a"}, {"b", "a", ""}, nil, {"b"}, {"b", "a"}, {"b", "a", ""}} {
		if got := x.Keys(shape); !slices.Equal(got, want) {
			t.Errorf("Keys(%d) is %q", shape, got)
		}
		p := uint64(7)
		if shape > 4 {
			p = 0
		}
		if got, is := x.Proto(shape); got != p || !is {
			t.Errorf("Proto(%d) is %d, %v", shape, got, is)
		}
	}
}

// R5: what Keys tells is the caller's own: to write into it, or behind it, changes no shape and no other answer.
func TestKeysAreTheCallers(t *testing.T) {
	x := shapes.New(100)
	play(t, x, root(7, 0), add(0, "a", 1, 1), add(1, "b", 2, 2), add(2, "c", 3, 3), change(3, "b", 4, 4), move(4, 8, 8), add(2, "d", 1, 9))
	old := look(t, x)
	var told [][]string
	for range 2 {
		for n := range x.Count() {
			told = append(told, x.Keys(n))
		}
	}
	for i, l := range told {
		if want := old[i%len(old)].keys; !slices.Equal(l, want) {
			t.Errorf("answer %d is %q, not %q: another one was written into", i, l, want)
		}
		whole := l[:cap(l)]
		for j := range whole {
			whole[j] = "mine"
		}
	}
	if now := look(t, x); !slices.EqualFunc(now, old, seen.same) {
		t.Errorf("%v became %v", old, now)
	}
	play(t, x, add(0, "a", 1, 1), add(1, "b", 2, 2), add(2, "c", 3, 3), add(2, "mine", 3, 10), move(4, 8, 8))
}

// R5: a key that was handed in stays what it was, whatever becomes of the bytes that it was made of.
func TestKeysOfBytes(t *testing.T) {
	x := shapes.New(100)
	b := []byte("key")
	play(t, x, root(7, 0), add(0, string(b), 1, 1))
	copy(b, "yek")
	play(t, x, add(0, string(b), 1, 2), add(0, "key", 1, 1))
	has(t, x, 1, 7, "key", 1)
	has(t, x, 2, 7, "yek", 1)
}

// P11.3: what only tells changes nothing, however often it is asked.
func TestTellingChangesNothing(t *testing.T) {
	x := shapes.New(100)
	play(t, x, root(7, 0), add(0, "a", 1, 1))
	for range 50 {
		for n := -1; n < 3; n++ {
			x.Find(n, "a")
			x.Find(n, "b")
			x.Keys(n)
			x.Proto(n)
		}
	}
	counts(t, x, 2)
	play(t, x, add(0, "b", 1, 2), add(1, "b", 1, 3))
}
