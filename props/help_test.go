package props_test

import (
	"fmt"
	"math"
	"slices"
	"strings"
	"testing"

	"brazier/api"
	"brazier/heap"
	"brazier/props"
	"brazier/word"
)

// all are the flags of data that may all.
const all = api.Writable | api.Enumerable | api.Configurable

// names are what a wish names by all three flags.
const names = api.HasWritable | api.HasEnumerable | api.HasConfigurable

// data is a property of a whole number.
func data(n int32, flags int) api.Desc {
	return api.Desc{Value: word.Int(n), Set: word.Undefined, Flags: flags}
}

// pair is a getter and a setter.
func pair(get, set api.Word, flags int) api.Desc {
	return api.Desc{Value: get, Set: set, Flags: flags | api.Accessor}
}

// value is a wish for a value alone.
func value(w api.Word) api.Wish { return api.Wish{Has: api.HasValue, Value: w} }

// whole is a wish that names a value, and all flags.
func whole(w api.Word, flags int) api.Wish {
	return api.Wish{Has: api.HasValue | names, Value: w, Flags: flags}
}

// of is a new object that there must be room for.
func of(t *testing.T, h *heap.Heap, kind int, proto api.Word) api.Word {
	t.Helper()
	o, ok := h.Make(kind, proto)
	if !ok {
		t.Fatalf("Make(%d, %x) is refused", kind, proto)
	}
	return o
}

func object(t *testing.T, h *heap.Heap, proto api.Word) api.Word {
	t.Helper()
	return of(t, h, api.KindPlain, proto)
}

// array is one of these elements, holes among them.
func array(t *testing.T, h *heap.Heap, l ...api.Word) api.Word {
	t.Helper()
	a := of(t, h, api.KindArray, word.Null)
	for n, w := range l {
		h.SetElem(a, n, w)
	}
	return a
}

// owns tells what an object's own property is.
func owns(t *testing.T, h *heap.Heap, o api.Word, key string, want api.Desc) {
	t.Helper()
	if d, ok := props.Own(h, o, key); d != want || !ok {
		t.Errorf("Own(%x, %q) is %x, %v, not %x", o, key, d, ok, want)
	}
}

// lacks tells that an object has no such property of its own.
func lacks(t *testing.T, h *heap.Heap, o api.Word, key string) {
	t.Helper()
	if d, ok := props.Own(h, o, key); d != (api.Desc{}) || ok {
		t.Errorf("Own(%x, %q) is %x, %v", o, key, d, ok)
	}
}

// found tells whose a property is, and what.
func found(t *testing.T, h *heap.Heap, o api.Word, key string, whose api.Word, want api.Desc) {
	t.Helper()
	if at, d, ok := props.Lookup(h, o, key); at != whose || d != want || !ok {
		t.Errorf("Lookup(%x, %q) is %x, %x, %v, not %x, %x", o, key, at, d, ok, whose, want)
	}
}

// missed tells that nobody has a property.
func missed(t *testing.T, h *heap.Heap, o api.Word, key string) {
	t.Helper()
	if at, d, ok := props.Lookup(h, o, key); at != word.Undefined || d != (api.Desc{}) || ok {
		t.Errorf("Lookup(%x, %q) is %x, %x, %v", o, key, at, d, ok)
	}
}

// defines tells what Define answers; where it is refused, nothing changes.
func defines(t *testing.T, h *heap.Heap, o api.Word, key string, w api.Wish, want bool) {
	t.Helper()
	was := look(h)
	if got := props.Define(h, o, key, w); got != want {
		t.Errorf("Define(%x, %q, %x) is %v", o, key, w, got)
	}
	if !want && look(h) != was {
		t.Errorf("Define(%x, %q, %x): of\n%s\ncame\n%s", o, key, w, was, look(h))
	}
}

// deletes tells what Delete answers; where it is refused, nothing changes.
func deletes(t *testing.T, h *heap.Heap, o api.Word, key string, want bool) {
	t.Helper()
	was := look(h)
	if got := props.Delete(h, o, key); got != want {
		t.Errorf("Delete(%x, %q) is %v", o, key, got)
	}
	if !want && look(h) != was {
		t.Errorf("Delete(%x, %q): of\n%s\ncame\n%s", o, key, was, look(h))
	}
}

// assigns tells how an assignment goes; where it is not done, nothing changes.
func assigns(t *testing.T, h *heap.Heap, o api.Word, key string, v, setter api.Word, how int) {
	t.Helper()
	was := look(h)
	if w, got := props.Assign(h, o, key, v); w != setter || got != how {
		t.Errorf("Assign(%x, %q, %x) is %x, %d, not %x, %d", o, key, v, w, got, setter, how)
	}
	if how != api.AssignDone && look(h) != was {
		t.Errorf("Assign(%x, %q, %x): of\n%s\ncame\n%s", o, key, v, was, look(h))
	}
}

func done(t *testing.T, h *heap.Heap, o api.Word, key string, v api.Word) {
	t.Helper()
	assigns(t, h, o, key, v, word.Undefined, api.AssignDone)
}

func refused(t *testing.T, h *heap.Heap, o api.Word, key string, v api.Word) {
	t.Helper()
	assigns(t, h, o, key, v, word.Undefined, api.AssignRefused)
}

// keys tells which can be enumerated.
func keys(t *testing.T, h *heap.Heap, o api.Word, want ...string) {
	t.Helper()
	if got := props.Keys(h, o); !slices.Equal(got, want) {
		t.Errorf("Keys(%x) are %q, not %q", o, got, want)
	}
}

// protos tells what SetProto answers; where it is refused, nothing changes.
func protos(t *testing.T, h *heap.Heap, o, p api.Word, want bool) {
	t.Helper()
	was := look(h)
	if got := props.SetProto(h, o, p); got != want {
		t.Errorf("SetProto(%x, %x) is %v", o, p, got)
	}
	if want && h.Proto(o) != p {
		t.Errorf("SetProto(%x, %x): the prototype is %x", o, p, h.Proto(o))
	}
	if !want && look(h) != was {
		t.Errorf("SetProto(%x, %x): of\n%s\ncame\n%s", o, p, was, look(h))
	}
}

// look is all that a heap tells of what it has, shapes and breaks too.
func look(h *heap.Heap) string {
	var b strings.Builder
	fmt.Fprintln(&b, h.Objects(), h.Shapes(), h.Breaks())
	for n := range h.Objects() {
		o := word.Object(uint32(n))
		kind, _ := h.Kind(o)
		s, ok := h.Shape(o)
		fmt.Fprintf(&b, "%d: %d %x %v, shape %d %v", n, kind, h.Proto(o), h.Open(o), s, ok)
		for _, k := range h.Keys(o) {
			d, _ := h.Get(o, k)
			fmt.Fprintf(&b, ", %q: %x", k, d)
		}
		for i := range h.Len(o) {
			w, ok := h.Elem(o, i)
			fmt.Fprintf(&b, ", %x %v", w, ok)
		}
		fmt.Fprintln(&b)
	}
	return b.String()
}

// strangers are words that are no objects of a heap.
func strangers(h *heap.Heap) []api.Word {
	n := uint32(h.Objects())
	return []api.Word{
		word.Undefined, word.Null, word.False, word.True, word.Hole,
		word.Int(0), word.Int(1), word.Int(-1), word.Text(0), word.Text(1),
		word.Object(n), word.Object(n + 1), word.Object(1 << 31), word.Object(math.MaxUint32),
		word.Number(0x3fe0000000000000), word.Number(0x7ff8000000000000), word.Number(1 << 63),
		// words that can't be
		0, 1, math.MaxUint64, word.Object(0) | 1<<32, word.Object(0) | 1<<47, word.Null + 4, word.Null | 1<<32, api.TagObject, api.TagObject << 32,
	}
}

// chance is a row of numbers that is always the same one.
type chance uint64

func (c *chance) below(n int) int {
	*c = *c*6364136223846793005 + 1442695040888963407
	return int(uint64(*c)>>33) % n
}

func one[T any](c *chance, l ...T) T { return l[c.below(len(l))] }
