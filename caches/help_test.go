package caches_test

import (
	"math"
	"slices"
	"testing"

	"brazier/api"
	"brazier/caches"
	"brazier/word"
)

// asks tells whether a cell is valid.
type asks = func(cell int) bool

func yes(int) bool { return true }

func no(int) bool { return false }

func panics(int) bool { panic("nobody knows") }

// but tells that all cells are valid but these.
func but(broken ...int) asks {
	return func(cell int) bool { return !slices.Contains(broken, cell) }
}

// free is an entry without a cell; on one that hangs on a cell. Their holders and slots are unlike, so that none is taken for another.
func free(shape int) api.Entry { return on(shape, -1) }

func on(shape, cell int) api.Entry {
	return api.Entry{Shape: shape, Holder: 100 + shape, Slot: 200 + 7*cell + shape, Cell: cell}
}

func site(state int, entries ...api.Entry) api.Site {
	return api.Site{State: state, Entries: entries}
}

// frees is a site of entries of these shapes, without cells.
func frees(state int, shapes ...int) api.Site {
	s := site(state)
	for _, shape := range shapes {
		s.Entries = append(s.Entries, free(shape))
	}
	return s
}

func same(s, o api.Site) bool {
	return s.State == o.State && slices.Equal(s.Entries, o.Entries)
}

// stray stands in a row behind the entries: nobody may write there.
var stray = api.Entry{Shape: -77, Holder: -78, Slot: -79, Cell: -80}

// roomy is the same site, with room behind its row, and that whole row.
func roomy(s api.Site) (api.Site, []api.Entry) {
	row := slices.Clone(s.Entries)
	for range 6 {
		row = append(row, stray)
	}
	return api.Site{State: s.State, Entries: row[:len(s.Entries)]}, row
}

// finds tells which entry is found, and that nothing that was handed in changes.
func finds(t *testing.T, s api.Site, shape int, valid asks, want api.Entry) {
	t.Helper()
	found(t, s, shape, valid, want, true)
}

// misses tells that none is found.
func misses(t *testing.T, s api.Site, shape int, valid asks) {
	t.Helper()
	found(t, s, shape, valid, api.Entry{}, false)
}

func found(t *testing.T, s api.Site, shape int, valid asks, want api.Entry, is bool) {
	t.Helper()
	given, row := roomy(s)
	was := slices.Clone(row)
	for range 2 {
		if e, ok := caches.Find(given, shape, valid); e != want || ok != is {
			t.Errorf("Find(%v, %d) is %v, %v, not %v, %v", s, shape, e, ok, want, is)
		}
	}
	if !slices.Equal(row, was) {
		t.Errorf("Find(%v, %d): of %v came %v", s, shape, was, row)
	}
}

// learns tells what a site becomes: the same each time, in memory of its own; what was handed in stays as it was.
func learns(t *testing.T, s api.Site, e api.Entry, valid asks, want api.Site) api.Site {
	t.Helper()
	given, row := roomy(s)
	was := slices.Clone(row)
	got, again := caches.Learn(given, e, valid), caches.Learn(given, e, valid)
	if !same(got, want) || !same(again, want) {
		t.Errorf("Learn(%v, %v) is %v, then %v, not %v", s, e, got, again, want)
	}
	told := site(again.State, slices.Clone(again.Entries)...)
	scribble(got.Entries)
	if !slices.Equal(row, was) {
		t.Errorf("Learn(%v, %v): of %v came %v", s, e, was, row)
	}
	if !same(again, told) {
		t.Errorf("Learn(%v, %v): two answers share memory", s, e)
	}
	return again
}

// scribble writes all over a row, and behind it.
func scribble(row []api.Entry) {
	row = row[:cap(row)]
	for i := range row {
		row[i] = api.Entry{Shape: -91, Holder: -92, Slot: -93, Cell: -94}
	}
}

// ariths tells what a state of arithmetic becomes, whichever of both words stands ahead.
func ariths(t *testing.T, state int, a, b api.Word, want int) {
	t.Helper()
	if got, turned := caches.Arith(state, a, b), caches.Arith(state, b, a); got != want || turned != want {
		t.Errorf("Arith(%d, %x, %x) is %d, turned round %d, not %d", state, a, b, got, turned, want)
	}
}

// calls tells what a state of calls becomes, and its target.
func calls(t *testing.T, state int, target, callee api.Word, want int, next api.Word) {
	t.Helper()
	if got, w := caches.Call(state, target, callee); got != want || w != next {
		t.Errorf("Call(%d, %x, %x) is %d, %x, not %d, %x", state, target, callee, got, w, want, next)
	}
}

func bits(f float64) uint64 { return math.Float64bits(f) }

// ints, numbers and strangers are words of each kind that arithmetic tells apart: whole numbers of 32 bits, other numbers, and what is none.
func ints() []api.Word {
	return []api.Word{word.Int(0), word.Int(1), word.Int(-1), word.Int(42), word.Int(65536), word.Int(math.MinInt32), word.Int(math.MinInt32 + 1), word.Int(math.MaxInt32 - 1), word.Int(math.MaxInt32)}
}

func numbers() []api.Word {
	var l []api.Word
	for _, f := range []float64{
		0.5, -0.5, 1.5, 0.1, math.Copysign(0, -1), math.NaN(), math.Inf(1), math.Inf(-1),
		1 << 31, -1<<31 - 1, math.MaxInt32 - 0.5, math.MinInt32 + 0.5, 1 << 32, 1 << 53, 1e300,
		math.MaxFloat64, -math.MaxFloat64, math.SmallestNonzeroFloat64, -math.SmallestNonzeroFloat64,
	} {
		l = append(l, word.Number(bits(f)))
	}
	return l
}

func strangers() []api.Word {
	l := []api.Word{
		word.Undefined, word.Null, word.False, word.True, word.Hole,
		word.Text(0), word.Text(1), word.Text(math.MaxUint32), word.Object(0), word.Object(5), word.Object(math.MaxUint32),
	}
	return append(l, impossible()...)
}

// impossible are words that can't be.
func impossible() []api.Word {
	return []api.Word{
		0, api.Word(bits(1)), api.Word(bits(3)), api.Word(bits(-1)), api.Word(bits(math.MaxInt32)), api.Word(bits(math.MinInt32)), // whole ones by their own bits
		word.Int(0) | 1<<32, word.Int(-1) | 1<<47, word.Object(0) | 1<<32, word.Text(0) | 1<<40, word.Hole + 1, word.Undefined | 1<<32,
		0x7ff0000000000001, 0x7ff8000000000001, 0x7fffffffffffffff, 0xfff0000000000001, 0xfff8000000000000, 0xfffd000000000000, math.MaxUint64,
	}
}

// wrongStates are numbers that no state has.
func wrongStates() []int {
	return []int{math.MinInt, -1 << 32, -4, -3, -2, -1, 4, 5, 7, 1 << 32, math.MaxInt}
}

// chance is a row of numbers that is always the same one.
type chance uint64

func (c *chance) below(n int) int {
	*c = *c*6364136223846793005 + 1442695040888963407
	return int(uint64(*c)>>33) % n
}

func one[T any](c *chance, l ...T) T { return l[c.below(len(l))] }
