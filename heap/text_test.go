package heap_test

import (
	"math"
	"strings"
	"testing"

	"brazier/api"
	"brazier/heap"
	"brazier/word"
)

// says tells the word of a text, both ways.
func says(t *testing.T, h *heap.Heap, s string, want uint32) {
	t.Helper()
	w, ok := h.Text(s)
	if w != word.Text(want) || !ok {
		t.Fatalf("Text of %.20q, %d bytes, is %x, %v, not text %d", s, len(s), w, ok, want)
	}
	if got, ok := h.TextOf(w); got != s || !ok {
		t.Fatalf("TextOf(%x) is %.20q, %v, not %.20q", w, got, ok, s)
	}
}

// refuses tells that a text has no room.
func refuses(t *testing.T, h *heap.Heap, s string) {
	t.Helper()
	if w, ok := h.Text(s); w != word.Undefined || ok {
		t.Errorf("Text of %.20q, %d bytes, is %x, %v", s, len(s), w, ok)
	}
}

// P13.1: the chapter's example.
func TestTextExample(t *testing.T) {
	h := heap.New(9)
	for _, k := range []struct {
		text string
		want api.Word
	}{{"a", 0xfffc000000000000}, {"b", 0xfffc000000000001}, {"a", 0xfffc000000000000}} {
		if w, ok := h.Text(k.text); w != k.want || !ok {
			t.Errorf("Text(%s) is %x, %v, not %x", k.text, w, ok, k.want)
		}
	}
}

// P13.1: the empty text, texts of any bytes, and those that are nearly the same: each its own number, again and again.
func TestTexts(t *testing.T) {
	h := heap.New(9)
	texts := []string{"", "a", "A", "aa", "a ", "\x00", "\x00\x00", "a\x00", "\xff", "\xff\xfe", "\xc3\xa9", "\xc3", "\xe9", "1", "01", "\n", strings.Repeat("a", 100), strings.Repeat("a", 101)}
	for range 3 {
		for n, s := range texts {
			says(t, h, s, uint32(n))
		}
	}
	for b := range 256 {
		says(t, h, "byte "+string([]byte{byte(b)}), uint32(len(texts)+b))
	}
}

// P13.1: bytes that the caller writes into later are not the text's.
func TestTextStays(t *testing.T) {
	h := heap.New(9)
	b := []byte("abc")
	says(t, h, string(b), 0)
	b[0] = 'x'
	says(t, h, string(b), 1)
	says(t, h, "abc", 0)
}

// P13.1: MaxText bytes, and one more: that one is refused, and takes no number.
func TestLongText(t *testing.T) {
	h := heap.New(9)
	long := strings.Repeat("x", api.MaxText)
	refuses(t, h, long+"y")
	says(t, h, long, 0)
	refuses(t, h, long+"y")
	refuses(t, h, "y"+long)
	refuses(t, h, strings.Repeat("x", 1<<20))
	says(t, h, long[1:]+"y", 1)
	says(t, h, long[1:], 2)
	says(t, h, long, 0)
	says(t, h, strings.Repeat("\x00", api.MaxText), 3)
}

// P13.1: MaxTexts, and one more; those that are known are told all the same.
func TestManyTexts(t *testing.T) {
	h := heap.New(9)
	for n := range api.MaxTexts {
		says(t, h, name(n), uint32(n))
	}
	for range 2 {
		refuses(t, h, "")
		refuses(t, h, "one more")
		refuses(t, h, strings.Repeat("x", api.MaxText+1))
		for _, n := range []int{0, 1, api.MaxTexts / 2, api.MaxTexts - 1} {
			says(t, h, name(n), uint32(n))
		}
	}
	if s, ok := h.TextOf(word.Text(api.MaxTexts)); s != "" || ok {
		t.Errorf("the text behind the last is %q, %v", s, ok)
	}
	object(t, h, word.Null)
}

// P13.1: TextOf what is no text, or none of the heap's.
func TestNoText(t *testing.T) {
	h := heap.New(9)
	for count := range 3 {
		n := uint32(count)
		for _, w := range []api.Word{
			word.Text(n), word.Text(n + 1), word.Text(1 << 31), word.Text(math.MaxUint32),
			word.Object(0), word.Int(0), word.Undefined, word.Null, word.Hole, word.True,
			0, 1, math.MaxUint64, word.Text(0) | 1<<32, word.Text(0) | 1<<47, api.TagText, api.TagText << 32,
		} {
			if s, ok := h.TextOf(w); s != "" || ok {
				t.Errorf("of %d texts, TextOf(%x) is %q, %v", count, w, s, ok)
			}
		}
		says(t, h, "t"+name(count), n)
		object(t, h, word.Null)
	}
}

// P13.1: heaps know nothing of each other's texts; a key that is laid is no text of the heap.
func TestTwoHeapsOfTexts(t *testing.T) {
	g, h := heap.New(9), heap.New(9)
	says(t, g, "a", 0)
	says(t, g, "b", 1)
	if s, ok := h.TextOf(word.Text(0)); s != "" || ok {
		t.Errorf("text 0 of a heap without any is %q, %v", s, ok)
	}
	h.Put(object(t, h, word.Null), "key", data(1, all))
	says(t, h, "b", 0)
	says(t, h, "key", 1)
}
