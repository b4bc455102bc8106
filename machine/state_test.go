package machine_test

import (
	"slices"
	"strings"
	"testing"

	"brazier/api"
	"brazier/machine"
	"brazier/word"
)

// busy is a program in which much is under way.
const busy = `
let o = {a: 1, get b() { return this.a; }, "c d": [1, 2]};
o.c = function (n) { return n > 0 ? o.c(n - 1) + o.b : {} + ""; };
function* g(n) { try { while (n > 0) { let sent = yield n; print("sent", sent); n--; } } finally { print("end"); } return o; }
let i = g(3); let j = g(2); let k = g(1);
i.next(); i.next("x"); j.next();
try { i.throw(o); } catch (e) { print(e === o); }
print(o.c(3), j.next().value, k.next().done);
for (const x of ["p", "q"]) { try { if (x === "q") { null.x; } print(x); } catch (e) { print(e); } }
Object.preventExtensions(o); delete o.a; print(o.b);
throw new RangeError("end");
`

func stateOf(m *machine.Machine) string { return strings.Join(m.State(), "\n") }

// P17.3, R6: two machines of one program are in one state behind as many steps, whichever goes first; State asks nothing.
func TestTwoMachines(t *testing.T) {
	m, n := load(t, busy), load(t, busy)
	seen := map[string]bool{}
	for k := 0; ; k++ {
		was := stateOf(m)
		if stateOf(n) != was || stateOf(m) != was {
			t.Fatal("behind", k, "steps:", unlike(m.State(), n.State()))
		}
		if seen[was] && m.End() == api.EndRunning {
			t.Fatal("behind", k, "steps a state comes again")
		}
		seen[was] = true
		did := m.Step()
		if did && stateOf(n) == stateOf(m) {
			t.Fatal("a step changes nothing")
		}
		if n.Step() != did {
			t.Fatal("one goes on, the other does not")
		}
		if !did {
			break
		}
	}
	if m.Count() < 300 || ended(m) != "thrown RangeError: end" {
		t.Error(m.Count(), ended(m), m.Log())
	}
}

func unlike(l, k []string) string {
	for i := range min(len(l), len(k)) {
		if l[i] != k[i] {
			return l[i] + "\n" + k[i]
		}
	}
	return "other lengths"
}

// P17.3: what is done to one machine is seen in its State alone, till it is done to the other one.
func TestStateTells(t *testing.T) {
	put := func(key string, w api.Word, flags int) func(m *machine.Machine) {
		return func(m *machine.Machine) {
			m.Heap().Put(last(m), key, api.Desc{Value: w, Set: word.Undefined, Flags: flags})
		}
	}
	text := func(s string) func(m *machine.Machine) {
		return func(m *machine.Machine) {
			w, _ := m.Heap().Text(s)
			m.SetReg(0, w)
		}
	}
	m, n := stopped(t), stopped(t)
	seen := map[string]string{stateOf(m): "nothing"}
	for what, do := range map[string]func(m *machine.Machine){
		"a register": func(m *machine.Machine) { m.SetReg(0, word.Int(77)) },
		"-0":         func(m *machine.Machine) { m.SetReg(0, minus0) },
		"a hole":     func(m *machine.Machine) { m.SetReg(0, word.Hole) },
		"a text":     text("some text"),
		"a word":     text("fff900000000004d"),
		"quoted":     text("\" 1 \""),
		"another":    func(m *machine.Machine) { m.SetReg(1, word.Int(77)) },
		"an object":  func(m *machine.Machine) { m.Heap().Make(api.KindPlain, word.Null) },
		"a kind":     func(m *machine.Machine) { m.Heap().Make(api.KindError, word.Null) },
		"a property": put("new", word.Undefined, 7),
		"flags":      put("new", word.Undefined, 5),
		"a value":    put("new", word.Null, 7),
		"an accessor": func(m *machine.Machine) {
			m.Heap().Put(last(m), "new", api.Desc{Value: word.Undefined, Set: word.Undefined, Flags: 14})
		},
		"a setter": func(m *machine.Machine) {
			m.Heap().Put(last(m), "new", api.Desc{Value: word.Undefined, Set: last(m), Flags: 14})
		},
		"a key":        put("new\n", word.Undefined, 7),
		"an order":     func(m *machine.Machine) { put("p", 7, 7)(m); put("q", 7, 7)(m) },
		"an order too": func(m *machine.Machine) { put("q", 7, 7)(m); put("p", 7, 7)(m) },
		"an element":   func(m *machine.Machine) { m.Heap().SetElem(last(m), 0, word.Undefined) },
		"two elements": func(m *machine.Machine) { m.Heap().SetElem(last(m), 1, word.Undefined) },
		"holes":        func(m *machine.Machine) { m.Heap().SetLen(last(m), 1) },
		"two holes":    func(m *machine.Machine) { m.Heap().SetLen(last(m), 2) },
		"inner words":  func(m *machine.Machine) { m.Heap().SetInner(last(m), []api.Word{word.Undefined}) },
		"two of them":  func(m *machine.Machine) { m.Heap().SetInner(last(m), []api.Word{word.Undefined, word.Undefined}) },
		"a prototype":  func(m *machine.Machine) { m.Heap().SetProto(last(m), word.Null) },
		"another one":  func(m *machine.Machine) { m.Heap().SetProto(last(m), word.Object(1)) },
		"closed":       func(m *machine.Machine) { m.Heap().Close(last(m)) },
		"a count":      func(m *machine.Machine) { m.Jump(m.Pc()) },
		"a place":      func(m *machine.Machine) { m.Skip() },
		"a step":       func(m *machine.Machine) { m.Step() },
	} {
		m, n := stopped(t), stopped(t)
		was := stateOf(m)
		do(m)
		if other, ok := seen[stateOf(m)]; ok {
			t.Errorf("State does not tell %s from %s", what, other)
		}
		seen[stateOf(m)] = what
		if stateOf(n) != was {
			t.Error("another machine's State tells", what)
		}
		do(n)
		if stateOf(n) != stateOf(m) {
			t.Error("done to both:", what)
		}
	}
	// Texts that nobody has, and what shapes and cells tell, are nobody's state.
	m.Heap().Text("a text that nobody has")
	m.Heap().Guard(last(m))
	m.Heap().Find(0, "x")
	for k := range m.Heap().Objects() {
		m.Heap().Shape(word.Object(uint32(k)))
	}
	if stateOf(m) != stateOf(n) {
		t.Error("State tells what it should not")
	}
	text("same")(m)
	text("same")(n)
	if stateOf(m) != stateOf(n) {
		t.Error("State tells a text's number")
	}
}

// stopped is a machine in the midst of a program.
func stopped(t *testing.T) *machine.Machine {
	t.Helper()
	m := load(t, `function f(a, b) { let c = {}; return a + b; } print(1); f(2, 3);`)
	for m.Func() != ahead+1 || m.Pc() < 1 {
		m.Step()
	}
	return m
}

// last is the object that was made last.
func last(m *machine.Machine) api.Word { return word.Object(uint32(m.Heap().Objects() - 1)) }

// P17.3: what waits is told, too: what was thrown, and generators with their registers, their this, and how far they are.
func TestStateOfWhatWaits(t *testing.T) {
	// at is a machine's state behind all of a program but its return; of its registers nothing is left.
	at := func(code ...api.Instr) string {
		m := of(t, api.Program{Funcs: []api.Func{
			{Regs: 6, Consts: []api.Const{{IsText: true, Text: "next"}}, Handlers: []api.Handler{{From: 0, To: 2, Target: 2}}, Code: append(slices.Clone(code), api.Instr{Op: api.OpReturn})},
			{Regs: 3, Params: 2, Generator: true, Code: []api.Instr{{Op: api.OpYield, A: 2, B: 2}, {Op: api.OpReturn}}},
			{Regs: 3, Params: 2, Generator: true, Code: []api.Instr{{Op: api.OpYield, A: 2, B: 2}, {Op: api.OpReturn}}},
		}})
		for range code {
			m.Step()
		}
		if m.Func() != ahead || m.Pc() != len(code) {
			t.Fatal(m.Func(), m.Pc(), ended(m))
		}
		for n := range 6 {
			m.SetReg(n, word.Undefined)
		}
		return stateOf(m)
	}
	i := func(op int, operands ...int) api.Instr {
		operands = append(operands, 0, 0, 0)
		return api.Instr{Op: op, A: operands[0], B: operands[1], C: operands[2]}
	}
	// called is a call of a generator: which one, its this, how many arguments.
	called := func(which, this, args int) string {
		return at(i(api.OpClosure, 1, which), i(api.OpSmall, 2, this), i(api.OpSmall, 3, 1), i(api.OpSmall, 4, 2), i(api.OpCall, 0, 1, args))
	}
	thrown := func(small int) string { return at(i(api.OpSmall, 0, small), i(api.OpThrow)) }
	for what, pair := range map[string][2]string{
		"what was thrown":     {thrown(1), thrown(2)},
		"a generator's code":  {called(1, 0, 0), called(2, 0, 0)},
		"its this":            {called(1, 0, 0), called(1, 1, 0)},
		"its registers":       {called(1, 0, 0), called(1, 0, 1)},
		"its other registers": {called(1, 0, 1), called(1, 0, 2)},
	} {
		if pair[0] == pair[1] {
			t.Error("State does not tell", what)
		}
	}
	if called(1, 0, 1) != called(1, 0, 1) || thrown(3) != thrown(3) {
		t.Error("State tells more than the state")
	}
}

// P17.3: a generator that has not begun is another one than one that waits at its first instruction, though all else is made the same by hand.
func TestStateOfBegun(t *testing.T) {
	p := api.Program{Funcs: []api.Func{
		{Regs: 6, Consts: []api.Const{{IsText: true, Text: "next"}}, Code: []api.Instr{
			{Op: api.OpClosure, A: 1, B: 1}, {Op: api.OpCall, A: 0, B: 1}, {Op: api.OpGetNamed, A: 2}, {Op: api.OpMove, A: 3}, {Op: api.OpCall, A: 4, B: 2}, {Op: api.OpReturn},
		}},
		{Regs: 2, Generator: true, Code: []api.Instr{{Op: api.OpYield, B: 1}, {Op: api.OpReturn}}},
	}}
	begun, fresh := of(t, p), of(t, p)
	run(begun, 6)
	run(fresh, 4)
	fresh.Skip()
	fresh.Jump(5)
	h := fresh.Heap()
	o, _ := h.Make(api.KindPlain, begun.Heap().Proto(begun.Reg(4)))
	h.Put(o, "value", api.Desc{Value: word.Undefined, Set: word.Undefined, Flags: 7})
	h.Put(o, "done", api.Desc{Value: word.False, Set: word.Undefined, Flags: 7})
	fresh.SetReg(4, o)
	if begun.Pc() != 5 || begun.Reg(4) != o || begun.Count() != fresh.Count() {
		t.Fatal(begun.Pc(), begun.Count(), fresh.Count())
	}
	a, b := begun.State(), fresh.State()
	unlikes := 0
	for i := range a {
		if a[i] != b[i] {
			unlikes++
		}
	}
	if len(a) != len(b) || unlikes != 1 {
		t.Error(unlikes, "lines are unlike")
	}
}
