package props_test

import (
	"fmt"
	"slices"
	"strconv"
	"testing"

	"brazier/api"
	"brazier/heap"
	"brazier/props"
	"brazier/word"
)

// thing is an object of the model: an array's elements and length are properties as others, by their keys.
type thing struct {
	array  bool
	closed bool
	proto  *thing
	self   api.Word
	keys   []string
	descs  map[string]api.Desc
	size   int
}

// model is a second reading of the chapter, without heaps.
type model struct{ things []*thing }

func (m *model) thing(o api.Word) *thing {
	for _, x := range m.things {
		if x.self == o {
			return x
		}
	}
	return nil
}

// place is an array's Index, or -1: its numbers are written out and looked for.
func (x *thing) place(key string) int {
	if !x.array {
		return -1
	}
	for n := range 24 {
		if strconv.Itoa(n) == key {
			return n
		}
	}
	if key == "4095" {
		return 4095
	}
	return -1
}

func (x *thing) own(key string) (api.Desc, bool) {
	if x == nil {
		return api.Desc{}, false
	}
	if x.array && key == "length" {
		return data(int32(x.size), api.Writable), true
	}
	d, ok := x.descs[key]
	return d, ok
}

func (x *thing) lookup(key string) (*thing, api.Desc, bool) {
	if x == nil {
		return nil, api.Desc{}, false
	}
	if d, ok := x.own(key); ok {
		return x, d, true
	}
	return x.proto.lookup(key)
}

func (x *thing) define(key string, w api.Wish) bool {
	old, has := x.own(key)
	switch {
	case x == nil, w.Has&48 != 0 && w.Has&3 != 0, !has && x.closed:
		return false
	case !has:
		old = api.Desc{Value: word.Undefined, Set: word.Undefined}
	}
	now := becomes(old, w)
	if has && !allowed(old, now) {
		return false
	}
	if x.array && key == "length" {
		n, ok := word.IsInt(now.Value)
		if !ok || n < 0 || n > 4096 || now.Flags != api.Writable {
			return false
		}
		for key := range x.descs {
			if x.place(key) >= int(n) {
				delete(x.descs, key)
			}
		}
		x.size = int(n)
		return true
	}
	if n := x.place(key); n >= 0 {
		if now.Flags != all {
			return false
		}
		x.size = max(x.size, n+1)
		x.descs[key] = now
		if now.Value == word.Hole {
			delete(x.descs, key)
		}
		return true
	}
	if !has {
		x.keys = append(x.keys, key)
	}
	x.descs[key] = now
	return true
}

func (x *thing) delete(key string) bool {
	d, has := x.own(key)
	if has && d.Flags&api.Configurable != 0 {
		delete(x.descs, key)
		x.keys = slices.DeleteFunc(x.keys, func(k string) bool { return k == key })
	}
	return !has || d.Flags&api.Configurable != 0
}

func (x *thing) assign(key string, v api.Word) (api.Word, int) {
	whose, d, has := x.lookup(key)
	ok := false
	switch {
	case has && d.Flags&api.Accessor != 0 && d.Set != word.Undefined:
		return d.Set, api.AssignCall
	case has && d.Flags&api.Accessor != 0, has && d.Flags&api.Writable == 0:
	case has && whose == x:
		ok = x.define(key, value(v))
	default:
		ok = x.define(key, whole(v, all))
	}
	if ok {
		return word.Undefined, api.AssignDone
	}
	return word.Undefined, api.AssignRefused
}

func (x *thing) enumerable() []string {
	var l []string
	if x == nil {
		return l
	}
	for n := range x.size {
		if _, ok := x.descs[strconv.Itoa(n)]; ok {
			l = append(l, strconv.Itoa(n))
		}
	}
	for _, key := range x.keys {
		if x.descs[key].Flags&api.Enumerable != 0 {
			l = append(l, key)
		}
	}
	return l
}

func (m *model) setProto(o, p api.Word) bool {
	x, above := m.thing(o), m.thing(p)
	switch {
	case x == nil, p != word.Null && above == nil:
		return false
	case x.proto == above:
		return true
	case x.closed:
		return false
	}
	for q := above; q != nil; q = q.proto {
		if q == x {
			return false
		}
	}
	x.proto = above
	return true
}

// call is one by chance: what, of which object, with what.
type call struct {
	what string
	o, w api.Word
	key  string
	wish api.Wish
}

func (c call) onHeap(h *heap.Heap) string {
	switch c.what {
	case "Define":
		return fmt.Sprint(props.Define(h, c.o, c.key, c.wish))
	case "Delete":
		return fmt.Sprint(props.Delete(h, c.o, c.key))
	case "Assign":
		return fmt.Sprint(props.Assign(h, c.o, c.key, c.w))
	case "SetProto":
		return fmt.Sprint(props.SetProto(h, c.o, c.w))
	}
	h.Close(c.o)
	return ""
}

func (c call) onModel(m *model) string {
	x := m.thing(c.o)
	switch c.what {
	case "Define":
		return fmt.Sprint(x.define(c.key, c.wish))
	case "Delete":
		return fmt.Sprint(x.delete(c.key))
	case "Assign":
		return fmt.Sprint(x.assign(c.key, c.w))
	case "SetProto":
		return fmt.Sprint(m.setProto(c.o, c.w))
	}
	if x != nil {
		x.closed = true
	}
	return ""
}

// keysOf are those that a round asks by.
func keysOf(c *chance) []string {
	l := []string{"a", "b", "length", "0", "1", "2", "10", "01", "4096", ""}
	if c.below(2) == 0 {
		for n := range 18 {
			l = append(l, fmt.Sprint("k", n))
		}
	}
	return l[:one(c, 3, 5, len(l), len(l))]
}

// anyCall is one by chance, of the objects that there are, mostly.
func anyCall(c *chance, h *heap.Heap, names []string) call {
	some := func() api.Word {
		if c.below(20) > 0 {
			return word.Object(uint32(c.below(h.Objects())))
		}
		return one(c, strangers(h)...)
	}
	k := call{o: some(), key: one(c, names...), w: one(c, some(), word.Null, word.Undefined, word.Hole, word.Int(int32(c.below(14)-1)), word.Int(int32(c.below(14))))}
	k.what = one(c, "Define", "Define", "Define", "Define", "Delete", "Assign", "Assign", "Assign", "SetProto", "SetProto")
	if c.below(60) == 0 {
		k.what = "Close"
	}
	k.wish = api.Wish{Has: one(c, c.below(64), c.below(64), 15, 15, 60, 12), Value: k.w, Get: some(), Set: one(c, some(), word.Undefined), Flags: one(c, 7, 7, c.below(16), -1)}
	return k
}

// same tells that a heap has what the model has, asked by each key, and that its shapes tell the truth (P14.8).
func same(t *testing.T, h *heap.Heap, m *model, k call, names []string) {
	t.Helper()
	for _, x := range m.things {
		if got, want := props.Keys(h, x.self), x.enumerable(); !slices.Equal(got, want) {
			t.Fatalf("behind %v: keys of %x are %q, not %q", k, x.self, got, want)
		}
		for _, key := range append(names, "4095") {
			d, ok := props.Own(h, x.self, key)
			if want, is := x.own(key); d != want || ok != is {
				t.Fatalf("behind %v: %q of %x is %x, %v, not %x, %v", k, key, x.self, d, ok, want, is)
			}
			at, d, ok := props.Lookup(h, x.self, key)
			whose, want, is := x.lookup(key)
			self := word.Undefined
			if is {
				self = whose.self
			}
			if at != self || d != want || ok != is {
				t.Fatalf("behind %v: looked up, %q of %x is %x, %x, %v, not %x, %x, %v", k, key, x.self, at, d, ok, self, want, is)
			}
			lies(t, h, x.self, key)
		}
		if h.Open(x.self) == x.closed {
			t.Fatalf("behind %v: %x is open: %v", k, x.self, !x.closed)
		}
	}
}

// lies tells that what a shape says of a key is what Own says.
func lies(t *testing.T, h *heap.Heap, o api.Word, key string) {
	t.Helper()
	s, shaped := h.Shape(o)
	slot, flags, ok := h.Find(s, key)
	if !shaped || !ok {
		return
	}
	at, is := h.Slot(o, slot)
	if d, own := props.Own(h, o, key); !own || !is || d != at || d.Flags != flags {
		t.Fatalf("%q of %x lies as %x, %v with flags %d, not %x, %v", key, o, at, is, flags, d, own)
	}
}

// P14.2 to P14.8: calls by chance, against a second reading; the same calls of another heap tell the same (R6); what is refused changes nothing.
func TestAgainstModel(t *testing.T) {
	c := chance(141)
	for range 150 {
		most, names := one(&c, -1, 0, 3, 10, 60, api.MaxShapes), keysOf(&c)
		h, twin, m := heap.New(most), heap.New(most), &model{}
		for n := range 3 + c.below(5) {
			kind := one(&c, api.KindPlain, api.KindArray, api.KindFunction)
			o := of(t, h, kind, word.Null)
			of(t, twin, kind, word.Null)
			m.things = append(m.things, &thing{array: kind == api.KindArray, self: word.Object(uint32(n)), descs: map[string]api.Desc{}})
			if o != m.things[n].self {
				t.Fatal("the objects are not numbered one by one")
			}
		}
		for range 150 {
			k := anyCall(&c, h, names)
			was := look(h)
			want := k.onModel(m)
			if got, again := k.onHeap(h), k.onHeap(twin); got != want || again != want {
				t.Fatalf("%v tells %s, then %s, not %s", k, got, again, want)
			}
			done := k.what == "Assign" && want == fmt.Sprint(word.Undefined, api.AssignDone)
			if !done && want != "true" && want != "" && look(h) != was {
				t.Fatalf("%v is refused, and of\n%s\ncame\n%s", k, was, look(h))
			}
			same(t, h, m, k, names)
		}
		if look(h) != look(twin) {
			t.Fatal("the same calls came to other things")
		}
	}
}
