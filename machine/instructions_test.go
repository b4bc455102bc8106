package machine_test

import (
	"testing"

	"brazier/api"
	"brazier/code"
	"brazier/machine"
	"brazier/word"
)

// bench is a machine whose program is an instruction, and a return; registers are laid by hand.
type bench struct {
	*testing.T
	*machine.Machine
}

// consts are those of a bench.
func consts() []api.Const {
	return []api.Const{{Bits: 0x4004 << 48}, {IsText: true, Text: "x"}, {Bits: 1 << 63}, {Bits: 0xffff << 48}, {IsText: true, Text: "length"}, {Bits: 0x4008 << 48}}
}

func benchOf(t *testing.T, i api.Instr) bench {
	t.Helper()
	l := []api.Instr{i, {Op: api.OpReturn}}
	if i.Op == api.OpClosure || i.Op == api.OpFree { // what it needs stands in function 1
		return bench{t, of(t, withClosure(i))}
	}
	return bench{t, of(t, api.Program{Funcs: []api.Func{{Regs: 8, Consts: consts(), Code: l}}})}
}

func withClosure(i api.Instr) api.Program {
	return api.Program{Funcs: []api.Func{
		{Regs: 8, Code: []api.Instr{i, {Op: api.OpReturn}}},
		{Regs: 2, Params: 1, Code: []api.Instr{{Op: api.OpFree, A: 1}, {Op: api.OpReturn, A: 1}}, Captures: []api.Capture{{Index: 3}, {Index: 4}}},
		{Generator: true, Regs: 2, Code: []api.Instr{{Op: api.OpYield, A: 0, B: 1}, {Op: api.OpReturn}}},
	}}
}

func (b bench) text(s string) api.Word {
	w, ok := b.Heap().Text(s)
	if !ok {
		b.Fatal("no room")
	}
	return w
}

func (b bench) object(kind int) api.Word {
	w, ok := b.Heap().Make(kind, word.Null)
	if !ok {
		b.Fatal("no room")
	}
	return w
}

// does: the instruction goes on to the one behind it, and that is in the register 0 then.
func (b bench) does(what string, want api.Word) {
	b.Helper()
	if !b.Step() || b.End() != api.EndRunning || b.Count() != 1 || b.Pc() != 1 || b.Reg(0) != want {
		b.Errorf("%s: %x, not %x (Pc %d, Count %d, %s)", what, b.Reg(0), want, b.Pc(), b.Count(), ended(b.Machine))
	}
}

func (b bench) fails(what, want string) {
	b.Helper()
	if !b.Step() || b.End() != api.EndThrown || b.Count() != 1 || b.Uncaught() != want {
		b.Errorf("%s: %s, not %s", what, ended(b.Machine), want)
	}
}

const (
	half     = api.Word(0x3fe0 << 48)
	minus0   = api.Word(1 << 63)
	nan      = api.Word(0x7ff8 << 48)
	infinity = api.Word(0x7ff0 << 48)
	big      = api.Word(0x41e0 << 48) // 2^31
)

// P17.2: those that bring something to a register.
func TestLoads(t *testing.T) {
	for _, k := range []struct {
		i    api.Instr
		want api.Word
	}{
		{api.Instr{Op: api.OpNop}, word.Int(70)},
		{api.Instr{Op: api.OpConst, B: 0}, 0x4004 << 48},
		{api.Instr{Op: api.OpConst, B: 2}, minus0},
		{api.Instr{Op: api.OpConst, B: 3}, nan},
		{api.Instr{Op: api.OpConst, B: 5}, word.Int(3)},
		{api.Instr{Op: api.OpSmall, B: 0}, word.Undefined},
		{api.Instr{Op: api.OpSmall, B: 1}, word.Null},
		{api.Instr{Op: api.OpSmall, B: 2}, word.False},
		{api.Instr{Op: api.OpSmall, B: 3}, word.True},
		{api.Instr{Op: api.OpSmall, B: 4}, word.Hole},
		{api.Instr{Op: api.OpMove, B: 3}, word.Int(73)},
		{api.Instr{Op: api.OpThis}, word.Undefined},
		{api.Instr{Op: api.OpSelf}, word.Undefined},
		{api.Instr{Op: api.OpNative, B: api.BuiltinNaN}, nan},
		{api.Instr{Op: api.OpNative, B: api.BuiltinInfinity}, infinity},
		{api.Instr{Op: api.OpCatch}, word.Undefined},
	} {
		b := benchOf(t, k.i)
		for n := range 8 {
			b.SetReg(n, word.Int(int32(70+n)))
		}
		b.does(code.Shape(k.i.Op), k.want)
	}
	b := benchOf(t, api.Instr{Op: api.OpConst, B: 1})
	b.does("a text", b.text("x"))
}

// P17.2: boxes.
func TestBoxes(t *testing.T) {
	b := benchOf(t, api.Instr{Op: api.OpBox})
	n := b.Heap().Objects()
	b.does("a new box", word.Object(uint32(n)))
	kind, _ := b.Heap().Kind(b.Reg(0))
	if inner := b.Heap().Inner(b.Reg(0)); kind != api.KindBox || b.Heap().Proto(b.Reg(0)) != word.Null || len(inner) != 1 || inner[0] != word.Hole || len(b.Heap().Keys(b.Reg(0))) != 0 {
		t.Error(kind, inner)
	}
	b = benchOf(t, api.Instr{Op: api.OpBoxGet, B: 2})
	box := b.object(api.KindBox)
	b.Heap().SetInner(box, []api.Word{word.Int(9)})
	b.SetReg(2, box)
	b.does("what is in a box", word.Int(9))
	b = benchOf(t, api.Instr{Op: api.OpBoxSet, A: 0, B: 2})
	box = b.object(api.KindBox)
	b.SetReg(0, box)
	b.SetReg(2, word.Int(9))
	b.does("a box stays where it is", box)
	if inner := b.Heap().Inner(box); len(inner) != 1 || inner[0] != word.Int(9) {
		t.Error(inner)
	}
}

// P17.2: OpHole, OpIterable.
func TestChecks(t *testing.T) {
	for _, w := range []api.Word{word.Undefined, word.Null, word.False, word.Int(0), half} {
		b := benchOf(t, api.Instr{Op: api.OpHole, A: 0, B: 1})
		b.SetReg(0, w)
		b.does("no hole", w)
		b = benchOf(t, api.Instr{Op: api.OpIterable})
		b.SetReg(0, w)
		b.fails("a primitive", "TypeError: iterator")
	}
	b := benchOf(t, api.Instr{Op: api.OpHole, A: 0, B: 1})
	b.SetReg(0, word.Hole)
	b.fails("a hole", "ReferenceError: x")
	b = benchOf(t, api.Instr{Op: api.OpIterable})
	b.SetReg(0, b.object(api.KindArray))
	b.does("an object", b.Reg(0))
}

// P17.2: OpClosure and OpFree: what a function takes along, and what else it has.
func TestClosures(t *testing.T) {
	b := benchOf(t, api.Instr{Op: api.OpClosure, B: 1})
	b.SetReg(3, word.Int(33))
	b.SetReg(4, word.Int(44))
	h := b.Heap()
	b.does("a function", word.Object(uint32(h.Objects())))
	f := b.Reg(0)
	kind, _ := h.Kind(f)
	d, has := h.Get(f, "prototype")
	c, has2 := h.Get(d.Value, "constructor")
	pk, isObject := h.Kind(d.Value)
	if kind != api.KindFunction || !has || !has2 || !isObject || pk != api.KindPlain || d.Flags != api.Writable || c.Flags != api.Writable|api.Configurable || c.Value != f || len(h.Keys(f)) != 1 || len(h.Keys(d.Value)) != 1 {
		t.Error(kind, d, c, pk)
	}
	if h.Proto(f) == word.Null || h.Proto(h.Proto(f)) != h.Proto(d.Value) || h.Proto(h.Proto(d.Value)) != word.Null {
		t.Error("prototypes")
	}
	b = benchOf(t, api.Instr{Op: api.OpClosure, B: 2})
	b.does("a generator", word.Object(uint32(b.Heap().Objects())))
	if len(b.Heap().Keys(b.Reg(0))) != 0 || b.Heap().Objects() != h.Objects()-1 {
		t.Error("a generator has no prototype")
	}
	// It is called: what was taken along is what the registers had when it was made.
	p := withClosure(api.Instr{Op: api.OpClosure, B: 1})
	p.Funcs[0].Code = []api.Instr{{Op: api.OpClosure, B: 1}, {Op: api.OpNop}, {Op: api.OpCall, A: 7}, {Op: api.OpReturn}}
	m := of(t, p)
	m.SetReg(3, word.Int(33))
	m.Step()
	m.SetReg(3, word.Int(99))
	run(m, 4) // Nop, Call, Free, Return
	if m.Func() != ahead || m.Reg(7) != word.Int(33) || m.Pc() != 3 {
		t.Errorf("%x at %d", m.Reg(7), m.Pc())
	}
}

// P17.2: a box that is handed on from a function to one within it.
func TestFreeCaptures(t *testing.T) {
	p := api.Program{Funcs: []api.Func{
		{Regs: 4, Code: []api.Instr{{Op: api.OpBox, A: 3}, {Op: api.OpThis, A: 1}, {Op: api.OpBoxSet, A: 3, B: 0}, {Op: api.OpClosure, A: 0, B: 1}, {Op: api.OpCall, A: 0, B: 0}, {Op: api.OpCall, A: 0, B: 0}, {Op: api.OpReturn}}},
		{Regs: 2, Captures: []api.Capture{{Index: 2}, {Index: 3}}, Code: []api.Instr{{Op: api.OpClosure, B: 2}, {Op: api.OpReturn}}},
		{Regs: 2, Captures: []api.Capture{{Free: true, Index: 1}}, Code: []api.Instr{{Op: api.OpFree}, {Op: api.OpBoxGet}, {Op: api.OpReturn}}},
	}}
	m := of(t, p)
	m.SetReg(0, word.Int(8))
	run(m, 11)
	if m.Func() != ahead || m.Pc() != 6 || m.Reg(0) != word.Int(8) {
		t.Errorf("%x in %d at %d", m.Reg(0), m.Func(), m.Pc())
	}
}

// primitives are some, with what OpNum, OpText, OpNot, OpTypeof, OpNeg and OpBitNot make of them.
var primitives = []struct {
	w            api.Word
	s            string // of a text
	num          api.Word
	text, typeOf string
	not          bool
	neg          api.Word
	bits         int32
}{
	{word.Undefined, "", nan, "undefined", "undefined", true, nan, -1},
	{word.Null, "", word.Int(0), "null", "object", true, minus0, -1},
	{word.False, "", word.Int(0), "false", "boolean", true, minus0, -1},
	{word.True, "", word.Int(1), "true", "boolean", false, word.Int(-1), -2},
	{word.Int(0), "", word.Int(0), "0", "number", true, minus0, -1},
	{minus0, "", minus0, "0", "number", true, word.Int(0), -1},
	{word.Int(-5), "", word.Int(-5), "-5", "number", false, word.Int(5), 4},
	{word.Int(-2147483648), "", word.Int(-2147483648), "-2147483648", "number", false, big, 2147483647},
	{half, "", half, "0.5", "number", false, half | minus0, -1},
	{big, "", big, "2147483648", "number", false, word.Int(-2147483648), 2147483647},
	{nan, "", nan, "NaN", "number", true, nan, -1},
	{infinity, "", infinity, "Infinity", "number", false, infinity | minus0, -1},
	{0, "", word.Int(0), "", "string", true, minus0, -1},
	{0, " 12\n", word.Int(12), " 12\n", "string", false, word.Int(-12), -13},
	{0, "0x10", word.Int(16), "0x10", "string", false, word.Int(-16), -17},
	{0, "0", word.Int(0), "0", "string", false, minus0, -1},
	{0, "x", nan, "x", "string", false, nan, -1},
	{0, "-0", minus0, "-0", "string", false, word.Int(0), -1},
}

// P17.2: what is made of one primitive.
func TestOfOne(t *testing.T) {
	for _, k := range primitives {
		on := func(op, c int) bench {
			b := benchOf(t, api.Instr{Op: op, B: 2, C: c})
			w := k.w
			if k.typeOf == "string" {
				w = b.text(k.s)
			}
			b.SetReg(2, w)
			return b
		}
		on(api.OpNum, 0).does("num "+k.text, k.num)
		on(api.OpNeg, 0).does("neg "+k.text, k.neg)
		on(api.OpBitNot, 0).does("bits "+k.text, word.Int(k.bits))
		on(api.OpNot, 0).does("not "+k.text, word.Bool(k.not))
		b := on(api.OpText, 0)
		b.does("text "+k.text, b.text(k.text))
		b = on(api.OpTypeof, 0)
		b.does("typeof "+k.text, b.text(k.typeOf))
		for c := range 2 {
			b = on(api.OpPrim, c)
			b.does("prim "+k.text, b.Reg(2))
		}
		b = on(api.OpPrimIf, 3)
		b.does("prim "+k.text, b.Reg(2))
	}
}

// P17.2: OpPrim of objects: a call of the prelude's; OpPrimIf: just if the other one asks for that.
func TestPrimCalls(t *testing.T) {
	for _, k := range []struct {
		i     api.Instr
		other api.Word
		calls bool
		first string
	}{
		{api.Instr{Op: api.OpPrim, B: 2}, 0, true, "valueOf"},
		{api.Instr{Op: api.OpPrim, B: 2, C: 1}, 0, true, "toString"},
		{api.Instr{Op: api.OpPrimIf, B: 2, C: 3}, word.Int(1), true, "valueOf"},
		{api.Instr{Op: api.OpPrimIf, B: 2, C: 3}, word.True, true, "valueOf"},
		{api.Instr{Op: api.OpPrimIf, B: 2, C: 3}, word.Undefined, false, ""},
		{api.Instr{Op: api.OpPrimIf, B: 2, C: 3}, word.Null, false, ""},
		{api.Instr{Op: api.OpPrimIf, B: 2, C: 3}, word.Object(0), false, ""},
	} {
		b := benchOf(t, k.i)
		o := b.object(api.KindPlain)
		b.SetReg(2, o)
		b.SetReg(3, k.other)
		if !k.calls {
			b.does("prim if", o)
			continue
		}
		second := map[string]string{"valueOf": "toString", "toString": "valueOf"}[k.first]
		b.Step()
		if b.Func() < 1 || b.Func() >= ahead || b.Pc() != 0 || b.Reg(0) != o || text(t, b.Machine, b.Reg(1)) != k.first || text(t, b.Machine, b.Reg(2)) != second || b.Count() != 1 {
			t.Error("in", b.Func(), "at", b.Pc())
		}
		run(b.Machine, plenty)
		if b.Uncaught() != "TypeError: no primitive" { // it stands under null
			t.Error(ended(b.Machine))
		}
	}
}

// P17.2: properties, by the values of registers and by constants.
func TestProperties(t *testing.T) {
	b := benchOf(t, api.Instr{Op: api.OpGetNamed, B: 2, C: 1})
	o := b.object(api.KindPlain)
	b.Heap().Put(o, "x", api.Desc{Value: word.Int(5), Set: word.Undefined})
	b.SetReg(2, o)
	b.does("get named", word.Int(5))
	b = benchOf(t, api.Instr{Op: api.OpSetNamed, A: 0, B: 1, C: 3})
	o = b.object(api.KindPlain)
	b.SetReg(0, o)
	b.SetReg(3, half)
	b.does("set named", o)
	if d, has := b.Heap().Get(o, "x"); !has || d.Value != half || d.Flags != 7 {
		t.Error(d, has)
	}
	b = benchOf(t, api.Instr{Op: api.OpGetNamed, B: 2, C: 4})
	b.SetReg(2, b.text("\xff\x00"))
	b.does("length", word.Int(2))
	b = benchOf(t, api.Instr{Op: api.OpGet, B: 2, C: 3})
	b.SetReg(2, b.text("\xff\x00"))
	b.SetReg(3, b.text("1"))
	b.does("a byte", b.text("\x00"))
	for _, op := range []int{api.OpDef, api.OpDefGet, api.OpDefSet} {
		b = benchOf(t, api.Instr{Op: op, A: 0, B: 2, C: 3})
		o = b.object(api.KindPlain)
		b.SetReg(0, o)
		b.SetReg(2, b.text("k"))
		b.SetReg(3, word.Int(4))
		b.does("def", o)
		want := map[int]api.Desc{api.OpDef: {Value: word.Int(4), Set: word.Undefined, Flags: 7}, api.OpDefGet: {Value: word.Int(4), Set: word.Undefined, Flags: 14}, api.OpDefSet: {Value: word.Undefined, Set: word.Int(4), Flags: 14}}
		if d, has := b.Heap().Get(o, "k"); !has || d != want[op] {
			t.Error(op, d, has)
		}
	}
	b = benchOf(t, api.Instr{Op: api.OpPush, A: 0, B: 2})
	o = b.object(api.KindArray)
	b.Heap().SetLen(o, 2)
	b.SetReg(0, o)
	b.SetReg(2, word.Int(4))
	b.does("push", o)
	if w, ok := b.Heap().Elem(o, 2); !ok || w != word.Int(4) || b.Heap().Len(o) != 3 {
		t.Error(w, ok)
	}
	b = benchOf(t, api.Instr{Op: api.OpPush, A: 0, B: 2})
	o = b.object(api.KindArray)
	b.Heap().SetLen(o, api.MaxElems)
	b.SetReg(0, o)
	b.fails("push", "RangeError: elements")
	for _, op := range []int{api.OpObject, api.OpArray} {
		b = benchOf(t, api.Instr{Op: op})
		b.does("new", word.Object(uint32(b.Heap().Objects())))
		kind, _ := b.Heap().Kind(b.Reg(0))
		if kind != op-api.OpObject || b.Heap().Proto(b.Reg(0)) == word.Null || len(b.Heap().Keys(b.Reg(0)))+b.Heap().Len(b.Reg(0)) != 0 {
			t.Error(op, kind)
		}
	}
}

// P17.2: jumps.
func TestJumps(t *testing.T) {
	for _, k := range []struct {
		op      int
		w       api.Word
		a, b, c int
		to      int
	}{
		{api.OpJump, word.False, 2, 0, 0, 2},
		{api.OpJumpIf, word.True, 0, 2, 0, 2},
		{api.OpJumpIf, half, 0, 2, 0, 2},
		{api.OpJumpIf, word.Int(0), 0, 2, 0, 1},
		{api.OpJumpIf, nan, 0, 2, 0, 1},
		{api.OpJumpIf, minus0, 0, 2, 0, 1},
		{api.OpJumpIf, word.Object(0), 0, 2, 0, 2},
		{api.OpJumpNot, word.Undefined, 0, 2, 0, 2},
		{api.OpJumpNot, word.Null, 0, 2, 0, 2},
		{api.OpJumpNot, word.True, 0, 2, 0, 1},
		{api.OpJumpNot, word.Object(0), 0, 2, 0, 1},
	} {
		m := of(t, api.Program{Funcs: []api.Func{{Regs: 1, Code: []api.Instr{{Op: k.op, A: k.a, B: k.b, C: k.c}, {}, {Op: api.OpReturn}}}}})
		m.SetReg(0, k.w)
		if !m.Step() || m.Pc() != k.to || m.Reg(0) != k.w || m.Count() != 1 {
			t.Errorf("%d of %x: at %d", k.op, k.w, m.Pc())
		}
	}
}

// P17.2: what is thrown waits for OpCatch; the first Handler counts; one that begins behind the place, or ends ahead of it, does not.
func TestHandlers(t *testing.T) {
	program := func(l ...api.Handler) api.Program {
		return api.Program{Funcs: []api.Func{{Regs: 3, Handlers: l, Code: []api.Instr{
			{Op: api.OpNop}, {Op: api.OpThrow}, {Op: api.OpNop}, {Op: api.OpCatch, A: 1}, {Op: api.OpCatch, A: 2}, {Op: api.OpReturn},
		}}}}
	}
	for _, k := range []struct {
		l  []api.Handler
		to int
	}{
		{[]api.Handler{{From: 1, To: 2, Target: 3}}, 3},
		{[]api.Handler{{From: 0, To: 6, Target: 2}}, 2},
		{[]api.Handler{{From: 0, To: 1, Target: 2}, {From: 2, To: 3, Target: 2}, {From: 0, To: 2, Target: 3}, {From: 0, To: 3, Target: 4}}, 3},
		{[]api.Handler{{From: 0, To: 1, Target: 2}, {From: 2, To: 6, Target: 3}}, -1},
	} {
		m := of(t, program(k.l...))
		m.SetReg(0, half)
		run(m, 2)
		if k.to < 0 {
			if m.End() != api.EndThrown || m.Uncaught() != "0.5" {
				t.Error(k, ended(m))
			}
			continue
		}
		if m.Pc() != k.to || m.End() != api.EndRunning || m.Count() != 2 {
			t.Error(k, m.Pc())
		}
		m.Jump(3)
		run(m, 2)
		if m.Reg(1) != half || m.Reg(2) != word.Undefined {
			t.Errorf("%x, %x", m.Reg(1), m.Reg(2))
		}
	}
}

// P17.2: OpYield: what is sent, and how; where both come to one register, how.
func TestYields(t *testing.T) {
	for how, key := range []string{"next", "throw", "return"} {
		p := api.Program{Funcs: []api.Func{
			{Regs: 6, Consts: []api.Const{{IsText: true, Text: "next"}, {IsText: true, Text: key}}, Code: []api.Instr{
				{Op: api.OpClosure, B: 1}, {Op: api.OpCall, A: 1, B: 0}, {Op: api.OpGetNamed, A: 0, B: 1}, {Op: api.OpCall, A: 3},
				{Op: api.OpGetNamed, A: 0, B: 1, C: 1}, {Op: api.OpSmall, A: 2, B: 3}, {Op: api.OpCall, A: 0, B: 0, C: 1}, {Op: api.OpReturn},
			}},
			{Regs: 3, Generator: true, Code: []api.Instr{{Op: api.OpYield, A: 1, B: 2}, {Op: api.OpReturn}}},
		}}
		m := of(t, p)
		run(m, 4)
		if m.Func() != ahead+1 || m.Pc() != 0 {
			t.Fatal(m.Func(), m.Pc())
		}
		m.SetReg(1, half)
		m.Step()
		d, _ := m.Heap().Get(m.Reg(3), "value")
		if m.Func() != ahead || m.Pc() != 4 || d.Value != half {
			t.Error(m.Func(), m.Pc(), d)
		}
		run(m, 3)
		if m.Func() != ahead+1 || m.Pc() != 1 || m.Reg(1) != word.True || m.Reg(2) != word.Int(int32(how)) {
			t.Errorf("%s: in %d at %d: %x, %x", key, m.Func(), m.Pc(), m.Reg(1), m.Reg(2))
		}
	}
}
