package heap_test

import (
	"fmt"
	"math"
	"slices"
	"strings"
	"testing"

	"brazier/api"
	"brazier/heap"
	"brazier/word"
)

// thing is an object of the model; its shape is all that led to it, written out, or nothing.
type thing struct {
	kind   int
	proto  api.Word
	closed bool
	keys   []string
	descs  []api.Desc
	elems  []api.Word
	inner  []api.Word
	shape  string
	cell   int
}

// model is a second reading of the chapter: shapes are told apart by what led to them, and a cell is valid if one comes down from it by cells that were not broken.
type model struct {
	most   int
	texts  []string
	things []*thing
	shapes []string
	on     []int
	broken []bool
	breaks int
}

func (m *model) thing(o api.Word) *thing {
	if o>>32 != api.TagObject<<16 || int(o&math.MaxUint32) >= len(m.things) {
		return nil
	}
	return m.things[o&math.MaxUint32]
}

// known is a shape, if it is there, or there is room for it; else nothing.
func (m *model) known(shape string) string {
	if slices.Contains(m.shapes, shape) {
		return shape
	}
	if len(m.shapes) >= m.most {
		return ""
	}
	m.shapes = append(m.shapes, shape)
	return shape
}

// grown is a shape that comes of another one by a step; of none there comes none.
func (m *model) grown(from, step string, key string, flags int) string {
	if from == "" {
		return ""
	}
	return m.known(fmt.Sprintf("%s; %s %q %d", from, step, key, flags))
}

func root(kind int, proto api.Word) string { return fmt.Sprintf("kind %d under %x", kind, proto) }

func (m *model) valid(cell int) bool {
	if cell < 0 || cell >= len(m.on) {
		return false
	}
	for ; cell >= 0; cell = m.on[cell] {
		if m.broken[cell] {
			return false
		}
	}
	return true
}

func (m *model) touch(x *thing) {
	if !m.valid(x.cell) {
		return
	}
	var was []int
	for n := range m.on {
		if m.valid(n) {
			was = append(was, n)
		}
	}
	m.broken[x.cell] = true
	for _, n := range was {
		if !m.valid(n) {
			m.breaks++
		}
	}
}

func (m *model) guard(o api.Word) int {
	x := m.thing(o)
	if x == nil {
		return -1
	}
	if m.valid(x.cell) {
		return x.cell
	}
	below := m.guard(x.proto)
	m.on, m.broken = append(m.on, below), append(m.broken, false)
	x.cell = len(m.on) - 1
	return x.cell
}

func (m *model) text(s string) string {
	n := slices.Index(m.texts, s)
	if n < 0 && len(s) > 4096 {
		return fmt.Sprintf("%x false", word.Undefined)
	}
	if n < 0 {
		n = len(m.texts)
		m.texts = append(m.texts, s)
	}
	return fmt.Sprintf("%x true", word.Text(uint32(n)))
}

func (m *model) make(kind int, proto api.Word) string {
	if kind < 0 || kind > 6 || proto != word.Null && m.thing(proto) == nil {
		return fmt.Sprintf("%x false", word.Undefined)
	}
	m.things = append(m.things, &thing{kind: kind, proto: proto, cell: -1, shape: m.known(root(kind, proto))})
	return fmt.Sprintf("%x true", word.Object(uint32(len(m.things)-1)))
}

func (m *model) setProto(x *thing, p api.Word) {
	if p != word.Null && m.thing(p) == nil || p == x.proto {
		return
	}
	for q := p; q != word.Null; q = m.thing(q).proto {
		if m.thing(q) == x {
			return
		}
	}
	m.touch(x)
	x.proto = p
	if x.shape == "" {
		return
	}
	x.shape = m.known(root(x.kind, p))
	for n, k := range x.keys {
		x.shape = m.grown(x.shape, "add", k, x.descs[n].Flags)
	}
}

func (m *model) put(x *thing, key string, d api.Desc) {
	m.touch(x)
	if d.Flags &= 15; d.Flags >= 8 {
		d.Flags &= 14
	}
	n := slices.Index(x.keys, key)
	if n < 0 {
		x.keys, x.descs = append(x.keys, key), append(x.descs, d)
		if len(x.keys) == 17 {
			x.shape = ""
		}
		x.shape = m.grown(x.shape, "add", key, d.Flags)
		return
	}
	if x.descs[n].Flags != d.Flags {
		x.shape = m.grown(x.shape, "change", key, d.Flags)
	}
	x.descs[n] = d
}

func (m *model) drop(x *thing, key string) bool {
	n := slices.Index(x.keys, key)
	if n < 0 {
		return false
	}
	m.touch(x)
	x.keys, x.descs, x.shape = slices.Delete(x.keys, n, n+1), slices.Delete(x.descs, n, n+1), ""
	return true
}

func (m *model) setLen(x *thing, n int) bool {
	if n < 0 || n > 4096 {
		return false
	}
	m.touch(x)
	old := x.elems
	x.elems = make([]api.Word, n)
	for i := copy(x.elems, old); i < n; i++ {
		x.elems[i] = word.Hole
	}
	return true
}

func (m *model) setElem(x *thing, n int, w api.Word) bool {
	if n < 0 || n >= 4096 {
		return false
	}
	m.setLen(x, max(n+1, len(x.elems)))
	x.elems[n] = w
	return true
}

func (m *model) write(x *thing, n int, w api.Word) bool {
	if n < 0 || n >= len(x.keys) {
		return false
	}
	m.touch(x)
	x.descs[n].Value = w
	return true
}

// call is one by chance: what, of which object, with what.
type call struct {
	what  string
	o, w  api.Word
	key   string
	n     int
	d     api.Desc
	inner []api.Word
}

func (c call) String() string {
	return fmt.Sprintf("%s(%x, %x, %.10q, %d, %x, %x)", c.what, c.o, c.w, c.key, c.n, c.d, c.inner)
}

// onHeap makes the call; what it tells is written out.
func (c call) onHeap(h *heap.Heap) string {
	switch c.what {
	case "Text":
		w, ok := h.Text(c.key)
		return fmt.Sprintf("%x %v", w, ok)
	case "Make":
		w, ok := h.Make(c.n, c.w)
		return fmt.Sprintf("%x %v", w, ok)
	case "Guard":
		return fmt.Sprint(h.Guard(c.o))
	case "Drop":
		return fmt.Sprint(h.Drop(c.o, c.key))
	case "SetElem":
		return fmt.Sprint(h.SetElem(c.o, c.n, c.w))
	case "SetLen":
		return fmt.Sprint(h.SetLen(c.o, c.n))
	case "Write":
		return fmt.Sprint(h.Write(c.o, c.n, c.w))
	case "Close":
		h.Close(c.o)
	case "SetProto":
		h.SetProto(c.o, c.w)
	case "Put":
		h.Put(c.o, c.key, c.d)
	case "SetInner":
		h.SetInner(c.o, c.inner)
	}
	return ""
}

func (c call) onModel(m *model) string {
	switch c.what {
	case "Text":
		return m.text(c.key)
	case "Make":
		return m.make(c.n, c.w)
	case "Guard":
		return fmt.Sprint(m.guard(c.o))
	}
	x := m.thing(c.o)
	is := x != nil
	switch c.what {
	case "Drop":
		return fmt.Sprint(is && m.drop(x, c.key))
	case "SetElem":
		return fmt.Sprint(is && m.setElem(x, c.n, c.w))
	case "SetLen":
		return fmt.Sprint(is && m.setLen(x, c.n))
	case "Write":
		return fmt.Sprint(is && m.write(x, c.n, c.w))
	}
	if !is {
		return ""
	}
	switch c.what {
	case "Close":
		x.closed = true
	case "SetProto":
		m.setProto(x, c.w)
	case "Put":
		m.put(x, c.key, c.d)
	case "SetInner":
		x.inner = slices.Clone(c.inner)
	}
	return ""
}

// look is as look of a heap that has the same.
func (m *model) look() string {
	var b strings.Builder
	fmt.Fprintln(&b, len(m.things), len(m.shapes), m.breaks)
	for n, x := range m.things {
		s := slices.Index(m.shapes, x.shape)
		fmt.Fprintf(&b, "%d: %d true %x %v, shape %d %v, inner %x", n, x.kind, x.proto, !x.closed, max(s, 0), s >= 0, x.inner)
		for i, k := range x.keys {
			fmt.Fprintf(&b, ", %q: %x true %x true", k, x.descs[i], x.descs[i])
		}
		for _, w := range x.elems {
			if w == word.Hole {
				fmt.Fprintf(&b, ", %x false", word.Undefined)
			} else {
				fmt.Fprintf(&b, ", %x true", w)
			}
		}
		fmt.Fprintln(&b)
	}
	for n := range m.on {
		fmt.Fprint(&b, m.valid(n), " ")
	}
	return b.String()
}

// anyCall is one by chance, of the objects that there are, mostly; by keys of so many.
func anyCall(c *chance, h *heap.Heap, names int) call {
	some := func() api.Word {
		if n := h.Objects(); n > 0 && c.below(20) > 0 {
			// The first ones come by often: they are to get many properties.
			return word.Object(uint32(one(c, 0, c.below(min(n, 3)), c.below(n))))
		}
		return one(c, strangers(h)...)
	}
	k := call{o: some(), key: name(c.below(names)), w: one(c, some(), some(), word.Null, word.Int(int32(c.below(100))))}
	k.what = one(c, "Text", "Make", "Guard", "Guard", "Drop", "SetElem", "SetLen", "Write", "Close", "SetProto", "SetProto", "Put", "Put", "Put", "Put", "Put", "Put", "SetInner")
	k.n = one(c, 0, 0, 1, 2, 3, 4, 5, 6, 7, 16, 17, -1, 20)
	if c.below(200) == 0 {
		k.n = one(c, 4095, 4096, 4097, math.MinInt, math.MaxInt)
	}
	k.d = api.Desc{Value: some(), Set: some(), Flags: one(c, 7, 7, 7, 3, 0, 8, 14, 15, 23, -1)}
	for range c.below(3) {
		k.inner = append(k.inner, some())
	}
	if k.what == "Text" && c.below(9) == 0 {
		k.key = strings.Repeat(k.key, 4097/len(k.key)+c.below(2))
	}
	return k
}

// P13.1 to P13.8: calls by chance, against a second reading; the same calls of another heap tell the same (R6).
func TestAgainstModel(t *testing.T) {
	c := chance(132)
	for range 120 {
		most := one(&c, -1, 0, 1, 3, 10, 40, 120, api.MaxShapes)
		names := one(&c, 3, 6, 24)
		m := &model{most: most}
		h, twin := heap.New(most), heap.New(most)
		for n := range 250 {
			k := anyCall(&c, h, names)
			if n < 4 {
				k = call{what: "Make", n: n % 2, w: word.Null}
			}
			want := k.onModel(m)
			if got, again := k.onHeap(h), k.onHeap(twin); got != want || again != want {
				t.Fatalf("%v tells %s, then %s, not %s", k, got, again, want)
			}
			if now, want := look(h, len(m.on)), m.look(); now != want {
				t.Fatalf("behind %v there is\n%s\nnot\n%s", k, now, want)
			}
			if h.Valid(len(m.on)) {
				t.Fatalf("behind %v there is a cell too many", k)
			}
		}
		alike(t, h)
		if look(h, len(m.on)) != look(twin, len(m.on)) {
			t.Fatal("the same calls came to other things")
		}
	}
}
