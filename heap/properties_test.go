package heap_test

import (
	"fmt"
	"math"
	"slices"
	"strings"
	"testing"

	"brazier/api"
	"brazier/heap"
	"brazier/word"
)

// P13.3: keys in the order in which they came; a Put in place leaves them.
func TestPutOrder(t *testing.T) {
	h := heap.New(99)
	o := object(t, h, word.Null)
	order := []string{"b", "a", "c", "", "\x00", "\xff", "10", "9", "length", "a ", strings.Repeat("x", api.MaxText+1)}
	for n, k := range order {
		lacks(t, h, o, k)
		h.Put(o, k, data(int32(n), all))
		keys(t, h, o, order[:n+1]...)
	}
	for n, k := range order {
		lies(t, h, o, k, data(int32(n), all))
		h.Put(o, k, data(int32(-n), n%8))
		lies(t, h, o, k, data(int32(-n), n%8))
	}
	keys(t, h, o, order...)
	lacks(t, h, o, "d")
	// Keys are the object's alone: neither elements nor a prototype's.
	h.SetElem(o, 0, word.True)
	below := object(t, h, o)
	keys(t, h, o, order...)
	keys(t, h, below)
	lacks(t, h, below, "a")
	lacks(t, h, o, "0")
}

// P13.3: a property is told as it was laid: all words, also such as can't be; of data also Set.
func TestPutWords(t *testing.T) {
	h := heap.New(99)
	o := object(t, h, word.Null)
	for n, v := range append(strangers(h), o) {
		for _, set := range []api.Word{word.Undefined, o, v, 0, math.MaxUint64} {
			for _, flags := range []int{0, all, api.Accessor, api.Accessor | api.Configurable} {
				d := api.Desc{Value: v, Set: set, Flags: flags}
				h.Put(o, name(n), d)
				lies(t, h, o, name(n), d)
			}
		}
	}
}

// P13.3: of the flags the four alone; an Accessor has no Writable: at a new key, in place, in the shape.
func TestPutFlags(t *testing.T) {
	flags := []int{16, 17, 31, 1 << 20, 1<<20 | 6, -1, -2, -9, -16, -8, math.MinInt, math.MinInt | 5, math.MaxInt, math.MaxInt - 8}
	for n := range 16 {
		flags = append(flags, n)
	}
	h := heap.New(math.MaxInt)
	for _, f := range flags {
		want := 0
		for _, bit := range []int{1, 2, 4, 8} {
			if f&bit != 0 {
				want += bit
			}
		}
		if want > 8 && want%2 == 1 {
			want--
		}
		o, p := object(t, h, word.Null), object(t, h, word.Null)
		h.Put(o, "a", api.Desc{Value: word.Int(1), Set: word.True, Flags: f})
		h.Put(p, "b", data(1, all))
		h.Put(p, "a", data(1, all))
		h.Put(p, "a", api.Desc{Value: word.Int(2), Set: word.False, Flags: f})
		lies(t, h, o, "a", api.Desc{Value: word.Int(1), Set: word.True, Flags: want})
		lies(t, h, p, "a", api.Desc{Value: word.Int(2), Set: word.False, Flags: want})
		for at, x := range []api.Word{o, p} {
			if slot, got, ok := h.Find(shape(t, h, x), "a"); slot != at || got != want || !ok {
				t.Errorf("flags %x: Find is %d, %x, %v, not %d, %x", f, slot, got, ok, at, want)
			}
		}
	}
}

// P13.3: a getter in a value's place, and the other way round: nothing of the old one is left.
func TestPutAccessor(t *testing.T) {
	h := heap.New(99)
	o := object(t, h, word.Null)
	h.Put(o, "x", data(0, all))
	value := data(5, api.Writable|api.Enumerable)
	getter := api.Desc{Value: o, Set: word.True, Flags: api.Accessor | api.Enumerable}
	h.Put(o, "a", value)
	h.Put(o, "y", data(0, all))
	for range 3 {
		h.Put(o, "a", getter)
		lies(t, h, o, "a", getter)
		keys(t, h, o, "x", "a", "y")
		h.Put(o, "a", value)
		lies(t, h, o, "a", value)
		keys(t, h, o, "x", "a", "y")
	}
}

// P13.3: a Drop of the first, of one in the midst, of the last, of one that is not there, and the same key laid again.
func TestDrop(t *testing.T) {
	for _, k := range []struct {
		drop string
		left []string
	}{{"a", []string{"b", "c", "d"}}, {"b", []string{"a", "c", "d"}}, {"c", []string{"a", "b", "d"}}, {"d", []string{"a", "b", "c"}}} {
		h := heap.New(99)
		o, twin := object(t, h, word.Null), object(t, h, word.Null)
		for n, key := range []string{"a", "b", "c", "d"} {
			h.Put(o, key, data(int32(n), n))
			h.Put(twin, key, data(int32(n), n))
		}
		if h.Drop(o, "e") || h.Drop(o, "") || !h.Drop(o, k.drop) || h.Drop(o, k.drop) {
			t.Errorf("Drop %s", k.drop)
		}
		keys(t, h, o, k.left...)
		lacks(t, h, o, k.drop)
		for _, key := range k.left {
			lies(t, h, o, key, data(int32(key[0]-'a'), int(key[0]-'a')))
		}
		h.Put(o, k.drop, data(9, 7))
		keys(t, h, o, append(k.left, k.drop)...)
		lies(t, h, o, k.drop, data(9, 7))
		keys(t, h, twin, "a", "b", "c", "d")
		for range 2 {
			for _, key := range []string{"c", "a", "d", "b"} {
				h.Drop(o, key)
			}
			keys(t, h, o)
		}
		h.Put(o, "b", data(1, 1))
		keys(t, h, o, "b")
	}
}

// P13.3: a Drop of a key that stands above takes nothing away.
func TestDropAbove(t *testing.T) {
	h := heap.New(99)
	p := object(t, h, word.Null)
	o := object(t, h, p)
	h.Put(p, "a", data(1, all))
	if h.Drop(o, "a") {
		t.Error("dropped what it has not")
	}
	keys(t, h, p, "a")
}

// P13.3: what Keys told is the caller's own.
func TestKeysAreCopies(t *testing.T) {
	h := heap.New(99)
	o := object(t, h, word.Null)
	for _, n := range []int{3, 30} {
		fill(h, o, 0, n)
		got, again := h.Keys(o), h.Keys(o)
		for i := range got {
			got[i] = "written"
		}
		got = append(got, "behind")
		if len(again) != n || again[0] != name(0) || len(got) != n+1 {
			t.Errorf("%q, and %q", got, again)
		}
		keys(t, h, o, again...)
	}
}

// P13.3, P13.6: many properties, dropped from the front, the back, the midst, and by turns with others that are laid.
func TestManyProperties(t *testing.T) {
	for _, most := range []int{15, 16, 17, 18, 40, 3000} {
		for way, next := range []func(n int) int{
			func(n int) int { return 0 },
			func(n int) int { return n - 1 },
			func(n int) int { return n / 2 },
		} {
			h := heap.New(99)
			o := object(t, h, word.Null)
			fill(h, o, 0, most)
			want := make([]string, most)
			for n := range want {
				want[n] = name(n)
			}
			keys(t, h, o, want...)
			for n := 0; len(want) > 0; n++ {
				at := next(len(want))
				if !h.Drop(o, want[at]) || h.Drop(o, want[at]) {
					t.Fatal("drop", want[at])
				}
				lacks(t, h, o, want[at])
				want = slices.Delete(want, at, at+1)
				if n%3 == 0 && n < most {
					again := fmt.Sprint("new", n)
					h.Put(o, again, data(int32(n), all))
					want = append(want, again)
				}
				if n%100 == 0 || len(want) < 20 {
					keys(t, h, o, want...)
				}
			}
			fill(h, o, 0, 3)
			keys(t, h, o, name(0), name(1), name(2))
			if shape(t, h, o) != none {
				t.Error("it has a shape again:", most, way)
			}
		}
	}
}

// P13.3: as many keys as texts: what a call takes must not grow with them.
func TestVeryManyProperties(t *testing.T) {
	const n = 1 << 17
	h := heap.New(9)
	o := object(t, h, word.Null)
	fill(h, o, 0, n)
	for i := range n {
		if d, ok := h.Get(o, name(i)); !ok || d.Value != word.Int(int32(i)) {
			t.Fatal("key", i, "is", d, ok)
		}
		h.Put(o, name(i), data(int32(-i), 0))
	}
	if got := h.Keys(o); len(got) != n || got[0] != name(0) || got[n-1] != name(n-1) {
		t.Error("keys:", len(got))
	}
	for i := n - 1; i >= 0; i-- {
		if d, ok := h.Slot(o, i); !ok || d != data(int32(-i), 0) {
			t.Fatal("place", i, "is", d, ok)
		}
		if !h.Drop(o, name(i)) {
			t.Fatal("no drop of", i)
		}
	}
	keys(t, h, o)
}

// P13.6: Slot and Write at the first place, the last one, the one behind it, with a shape and without one.
func TestSlotAndWrite(t *testing.T) {
	for _, lost := range []bool{false, true} {
		for _, n := range []int{0, 1, 2, 16, 17, 40} {
			h := heap.New(99)
			o := object(t, h, word.Null)
			h.Put(o, "gone", data(1, all))
			if lost {
				h.Drop(o, "gone")
			} else if n > 0 {
				n--
			}
			fill(h, o, 0, n)
			size := len(h.Keys(o))
			was := shape(t, h, o)
			for i := range size {
				key := h.Keys(o)[i]
				d, _ := h.Get(o, key)
				if got, ok := h.Slot(o, i); got != d || !ok {
					t.Errorf("place %d is %v, %v", i, got, ok)
				}
				if !h.Write(o, i, word.Object(77)) {
					t.Error("no write at", i)
				}
				d.Value = word.Object(77)
				lies(t, h, o, key, d)
			}
			before := look(h, 0)
			for _, i := range numbers(size) {
				if i >= 0 && i < size {
					continue
				}
				if d, ok := h.Slot(o, i); d != (api.Desc{}) || ok || h.Write(o, i, word.True) {
					t.Errorf("place %d of %d: %v, %v", i, size, d, ok)
				}
			}
			if look(h, 0) != before || shape(t, h, o) != was || (was == none) != (lost || size > api.MaxFast) {
				t.Errorf("%d properties, lost %v: the shape is %d", size, lost, shape(t, h, o))
			}
		}
	}
}

// P13.6: Write: the Value alone is another one, of whatever property, by whatever word.
func TestWriteValueAlone(t *testing.T) {
	h := heap.New(99)
	o := object(t, h, word.Null)
	for flags := range 15 {
		h.Put(o, name(flags), api.Desc{Value: word.True, Set: word.Object(9), Flags: flags})
	}
	for n := range 15 {
		for _, w := range strangers(h) {
			d, _ := h.Slot(o, n)
			d.Value = w
			if !h.Write(o, n, w) {
				t.Error("no write at", n)
			}
			lies(t, h, o, name(n), d)
		}
	}
}
