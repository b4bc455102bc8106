package caches_test

import (
	"testing"

	"brazier/api"
	"brazier/caches"
	"brazier/word"
)

// P15.3: the chapter's example.
func TestArithExample(t *testing.T) {
	s := caches.Arith(api.ArithNew, word.Int(1), word.Int(2))
	if s != api.ArithInt {
		t.Errorf("of 1 and 2: %d", s)
	}
	if s = caches.Arith(s, word.Int(1), word.Number(bits(0.5))); s != api.ArithNum {
		t.Errorf("then of 0.5: %d", s)
	}
	if s = caches.Arith(s, word.Text(0), word.Int(1)); s != api.ArithAny {
		t.Errorf("then of a text: %d", s)
	}
}

// P15.3: words of each kind with words of each kind, with each state ahead.
func TestArith(t *testing.T) {
	rows := [][]api.Word{ints(), numbers(), strangers()}
	wants := [][]int{{api.ArithInt, api.ArithNum, api.ArithAny}, {api.ArithNum, api.ArithNum, api.ArithAny}, {api.ArithAny, api.ArithAny, api.ArithAny}}
	for i, left := range rows {
		for j, right := range rows {
			for _, a := range left {
				for _, b := range right {
					arithsOfStates(t, a, b, wants[i][j])
				}
			}
		}
	}
}

// arithsOfStates tells what comes of two words with each state ahead, if it is want with none.
func arithsOfStates(t *testing.T, a, b api.Word, want int) {
	t.Helper()
	ariths(t, api.ArithNew, a, b, want)
	ariths(t, api.ArithInt, a, b, want)
	ariths(t, api.ArithAny, a, b, api.ArithAny)
	if want == api.ArithInt {
		ariths(t, api.ArithNum, a, b, api.ArithNum)
	} else {
		ariths(t, api.ArithNum, a, b, want)
	}
}

// P15.3: wrong inputs: a state below the first is none, one beyond the last is the last.
func TestArithWrongState(t *testing.T) {
	for _, state := range wrongStates() {
		if state < 0 {
			ariths(t, state, word.Int(1), word.Int(2), api.ArithInt)
			ariths(t, state, word.Int(1), word.Number(bits(0.5)), api.ArithNum)
			ariths(t, state, word.Int(1), word.Undefined, api.ArithAny)
			continue
		}
		for _, w := range []api.Word{word.Int(1), word.Number(bits(0.5)), word.Undefined, 0} {
			ariths(t, state, w, w, api.ArithAny)
		}
	}
}

// P15.3: words that can't be are no numbers, though the bits of some of them, by themselves, would be.
func TestArithImpossible(t *testing.T) {
	for _, w := range impossible() {
		if word.Right(w) {
			t.Fatalf("%x can be", w)
		}
		for state := api.ArithNew; state <= api.ArithAny; state++ {
			ariths(t, state, w, w, api.ArithAny)
			ariths(t, state, w, word.Int(1), api.ArithAny)
		}
	}
}

// someWords are some of each kind, those that can't be too.
func someWords() []api.Word {
	return append(strangers(), word.Int(0), word.Int(1), word.Number(bits(0.5)), word.Number(1<<63), word.Number(0x7ff8000000000000))
}

// P15.3: of CallNew: CallOne and the callee, whatever the target is.
func TestCallNew(t *testing.T) {
	for _, target := range someWords() {
		for _, callee := range someWords() {
			calls(t, api.CallNew, target, callee, api.CallOne, callee)
		}
	}
}

// P15.3: of CallOne: the same, if the callee is the target; else CallMany and Undefined.
func TestCallOne(t *testing.T) {
	for i, target := range someWords() {
		for j, callee := range someWords() {
			if i == j {
				calls(t, api.CallOne, target, callee, api.CallOne, target)
			} else {
				calls(t, api.CallOne, target, callee, api.CallMany, word.Undefined)
			}
		}
	}
}

// P15.3: of CallMany, and of states that there are not: CallMany and Undefined, also if the callee is the target.
func TestCallMany(t *testing.T) {
	for _, state := range append(wrongStates(), api.CallMany, api.CallMany+1) {
		for _, target := range someWords() {
			calls(t, state, target, target, api.CallMany, word.Undefined)
			calls(t, state, target, word.Object(77), api.CallMany, word.Undefined)
			calls(t, state, word.Undefined, target, api.CallMany, word.Undefined)
		}
	}
}

// P15.3: a place of calls from its beginning on.
func TestCallByTurns(t *testing.T) {
	f, g := word.Object(3), word.Object(4)
	state, target := api.CallNew, word.Undefined
	for i, c := range []struct {
		callee, next api.Word
		want         int
	}{{f, f, api.CallOne}, {f, f, api.CallOne}, {g, word.Undefined, api.CallMany}, {g, word.Undefined, api.CallMany}, {f, word.Undefined, api.CallMany}, {word.Undefined, word.Undefined, api.CallMany}} {
		if state, target = caches.Call(state, target, c.callee); state != c.want || target != c.next {
			t.Errorf("call %d: %d, %x", i, state, target)
		}
	}
	// What is no function is a callee too: to call it throws, and that is for others to do.
	calls(t, api.CallNew, 0, word.Undefined, api.CallOne, word.Undefined)
	calls(t, api.CallOne, word.Undefined, word.Undefined, api.CallOne, word.Undefined)
	calls(t, api.CallOne, word.Undefined, f, api.CallMany, word.Undefined)
}
