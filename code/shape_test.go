package code_test

import (
	"math"
	"strings"
	"testing"

	"brazier/api"
	"brazier/code"
)

// chapter: the Ops' shapes, in order, as the chapter has them.
var chapter = chapterShapes()

func chapterShapes() []string {
	l := strings.Fields("--- wk- ws- wr- w-- w-- wb- w-- wr- rr- wc- rx- wf- wrh wrr")
	for range 6 {
		l = append(l, "wr-")
	}
	for range 19 {
		l = append(l, "wrr")
	}
	return append(l, strings.Fields("wrr rrr wrx rxr wrr wrr wrr w-- w-- rr- rrr rrr rrr wrn wrn r-- r-- t-- rt- rt- ww- w-- r--")...)
}

// P8.1: each Op's shape, by its number.
func TestShapes(t *testing.T) {
	want := chapter
	if len(want) != 63 {
		t.Fatal("the chapter has", len(want))
	}
	for op, w := range want {
		if got := code.Shape(op); got != w {
			t.Errorf("Shape(%d): %q, not %q", op, got, w)
		}
	}
}

// P8.1: shapes by the Ops' names, as the chapter's examples and api's remarks say what they are.
func TestShapesByName(t *testing.T) {
	for op, want := range map[int]string{
		api.OpNop: "---", api.OpConst: "wk-", api.OpSmall: "ws-", api.OpNative: "wb-", api.OpFree: "wc-", api.OpHole: "rx-",
		api.OpClosure: "wf-", api.OpPrim: "wrh", api.OpPrimIf: "wrr", api.OpText: "wr-", api.OpAdd: "wrr", api.OpNotSame: "wrr",
		api.OpGet: "wrr", api.OpSet: "rrr", api.OpGetNamed: "wrx", api.OpSetNamed: "rxr", api.OpCall: "wrn", api.OpNew: "wrn",
		api.OpReturn: "r--", api.OpThrow: "r--", api.OpJump: "t--", api.OpJumpIf: "rt-", api.OpJumpNot: "rt-", api.OpYield: "ww-",
		api.OpCatch: "w--", api.OpIterable: "r--",
	} {
		if got := code.Shape(op); got != want {
			t.Errorf("Shape(%d): %q, not %q", op, got, want)
		}
	}
}

// P8.1: what is no Op has no shape.
func TestNoShape(t *testing.T) {
	for _, op := range []int{-1, 63, 64, 127, 255, 1 << 31, -63, math.MinInt, math.MaxInt} {
		if got := code.Shape(op); got != "" {
			t.Errorf("Shape(%d): %q", op, got)
		}
	}
}
