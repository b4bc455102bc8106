package props_test

import (
	"fmt"
	"math"
	"strconv"
	"strings"
	"testing"

	"brazier/api"
	"brazier/heap"
	"brazier/props"
	"brazier/word"
)

// P14.1: every place there is, and none behind the last.
func TestIndex(t *testing.T) {
	for n := range api.MaxElems {
		if got, ok := props.Index(strconv.Itoa(n)); got != n || !ok {
			t.Errorf("Index(%d) is %d, %v", n, got, ok)
		}
	}
	for n := api.MaxElems; n < 120000; n++ {
		if got, ok := props.Index(strconv.Itoa(n)); got != 0 || ok {
			t.Errorf("Index(%d) is %d, %v", n, got, ok)
		}
	}
}

// P14.1: what is no place: the empty key, a 0 ahead, signs, blanks, other bytes, more digits than any number has.
func TestNoIndex(t *testing.T) {
	wrong := []string{
		"", "00", "01", "000", "007", "04095", "0x1", "-1", "-0", "+1", "+", "-", " 1", "1 ", "1\n", "\t1", " ", "4096", "4097", "9999", "10000", "40950",
		"1.0", "1.", ".1", "1e3", "1e", "1a", "a1", "a", "12a", "4095a", "length", "/", ":", "/1", ":1", "1/", "1:", "1/2", "1:2", "\x001", "1\x00", "\x00", "\xff", "1\xff", "٣", "１", "1_0",
		"4294967296", "4294967297", "18446744073709551616", "18446744073709551617", "18446744073709551621", "99999999999999999999", "340282366920938463463374607431768211456",
		strings.Repeat("9", 5000), strings.Repeat("0", 5000), "1" + strings.Repeat("0", 64), strings.Repeat("0", 4) + "1",
		strconv.Itoa(math.MaxInt64), strconv.Itoa(math.MinInt64),
	}
	for _, key := range wrong {
		if got, ok := props.Index(key); got != 0 || ok {
			t.Errorf("Index(%.20q) is %d, %v", key, got, ok)
		}
	}
	for b := range 256 {
		for _, key := range []string{string([]byte{byte(b)}), string([]byte{'1', byte(b)}), string([]byte{'1', byte(b), '2'})} {
			want := b >= '0' && b <= '9'
			n, ok := props.Index(key)
			if ok != want || ok && strconv.Itoa(n) != key || !ok && n != 0 {
				t.Errorf("Index(%q) is %d, %v", key, n, ok)
			}
		}
	}
}

// P14.2: what is laid, of every kind; what an array has besides.
func TestOwn(t *testing.T) {
	h := heap.New(99)
	for kind := range 7 {
		o := of(t, h, kind, word.Null)
		for flags := range 16 {
			d := api.Desc{Value: word.Int(int32(flags)), Set: word.Undefined, Flags: flags}
			if flags >= api.Accessor {
				d = pair(o, word.True, flags&^api.Writable)
			}
			key := fmt.Sprint("k", flags)
			lacks(t, h, o, key)
			h.Put(o, key, d)
			owns(t, h, o, key, d)
		}
		for _, key := range []string{"", "4096", "01", "Length", "length ", "lengt", "-1"} {
			lacks(t, h, o, key)
			h.Put(o, key, data(5, 0))
			owns(t, h, o, key, data(5, 0))
		}
	}
}

// P14.2: `length` and an Index are an array's alone; of what is no array they are keys as others.
func TestOwnElements(t *testing.T) {
	h := heap.New(99)
	for kind := range 7 {
		o := of(t, h, kind, word.Null)
		h.SetElem(o, 0, word.True)
		h.SetElem(o, 4095, o)
		h.SetElem(o, 2, word.Undefined)
		h.SetElem(o, 3, word.Int(7))
		h.SetElem(o, 3, word.Hole)
		if kind != api.KindArray {
			for _, key := range []string{"length", "0", "1", "2", "3", "4095"} {
				lacks(t, h, o, key)
				h.Put(o, key, data(5, 6))
				owns(t, h, o, key, data(5, 6))
			}
			continue
		}
		owns(t, h, o, "length", data(4096, api.Writable))
		owns(t, h, o, "0", api.Desc{Value: word.True, Set: word.Undefined, Flags: all})
		owns(t, h, o, "4095", api.Desc{Value: o, Set: word.Undefined, Flags: all})
		owns(t, h, o, "2", api.Desc{Value: word.Undefined, Set: word.Undefined, Flags: all})
		for _, key := range []string{"1", "3", "4094", "4096", "00", "02", "+2", " 2", "2.0"} {
			lacks(t, h, o, key)
		}
		h.SetLen(o, 2)
		owns(t, h, o, "length", data(2, api.Writable))
		lacks(t, h, o, "2")
		h.SetLen(o, 0)
		owns(t, h, o, "length", data(0, api.Writable))
		lacks(t, h, o, "0")
		h.Close(o)
		owns(t, h, o, "length", data(0, api.Writable))
	}
}

// P14.2: the same key at several heights: the lowest one counts; one that goes lets the next be seen.
func TestLookup(t *testing.T) {
	for _, most := range []int{0, 4, 256} {
		h := heap.New(most)
		p := word.Null
		var row []api.Word
		for n := range 40 {
			p = object(t, h, p)
			row = append(row, p)
			h.Put(p, fmt.Sprint("k", n), data(int32(n), n%8))
			if n%3 == 0 {
				h.Put(p, "a", data(int32(n), all))
			}
			if n%5 == 0 {
				h.Put(p, "b", pair(p, word.Undefined, n%4&^1))
			}
		}
		for n, o := range row {
			found(t, h, o, "a", row[n/3*3], data(int32(n/3*3), all))
			five := n / 5 * 5
			found(t, h, o, "b", row[five], pair(row[five], word.Undefined, five%4&^1))
			for k := range row {
				if k <= n {
					found(t, h, o, fmt.Sprint("k", k), row[k], data(int32(k), k%8))
				} else {
					missed(t, h, o, fmt.Sprint("k", k))
				}
			}
			missed(t, h, o, "")
			missed(t, h, o, "length")
		}
		h.Drop(row[6], "a")
		found(t, h, row[8], "a", row[3], data(3, all))
		h.Drop(row[3], "a")
		h.Drop(row[0], "a")
		missed(t, h, row[8], "a")
		found(t, h, row[9], "a", row[9], data(9, all))
	}
}

// P14.2: an array that stands above tells its length and its elements; holes let one look further.
func TestLookupArrays(t *testing.T) {
	h := heap.New(99)
	top := object(t, h, word.Null)
	a := of(t, h, api.KindArray, top)
	o := object(t, h, a)
	b := of(t, h, api.KindArray, o)
	h.Put(top, "0", data(1, 0))
	h.Put(top, "length", data(2, 0))
	h.SetElem(a, 1, word.True)
	found(t, h, o, "length", a, data(2, api.Writable))
	found(t, h, b, "length", b, data(0, api.Writable))
	found(t, h, b, "1", a, api.Desc{Value: word.True, Set: word.Undefined, Flags: all})
	found(t, h, b, "0", top, data(1, 0))
	h.SetElem(b, 1, word.False)
	found(t, h, b, "1", b, api.Desc{Value: word.False, Set: word.Undefined, Flags: all})
	found(t, h, o, "1", a, api.Desc{Value: word.True, Set: word.Undefined, Flags: all})
	// An element of what is no array is nobody's property.
	h.SetElem(o, 5, word.True)
	missed(t, h, b, "5")
}

// P14.2, P14.8: as many prototypes as there are objects come to an end.
func TestLookupFar(t *testing.T) {
	h := heap.New(99)
	p := object(t, h, word.Null)
	top := p
	h.Put(top, "a", data(1, all))
	for range 60000 {
		p = object(t, h, p)
	}
	found(t, h, p, "a", top, data(1, all))
	missed(t, h, p, "b")
	protos(t, h, top, p, false)
	done(t, h, p, "a", word.True)
	found(t, h, p, "a", p, api.Desc{Value: word.True, Set: word.Undefined, Flags: all})
}
