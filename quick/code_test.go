package quick_test

import (
	"fmt"
	"testing"

	"brazier/api"
	"brazier/code"
	"brazier/machine"
	"brazier/word"
)

// learns are the instructions at which something is learnt, or that stand in groups.
var learns = []int{api.OpGetNamed, api.OpGetNamed, api.OpGetNamed, api.OpSetNamed, api.OpSetNamed, api.OpCall, api.OpPrim, api.OpMove, api.OpFree, api.OpBoxGet, api.OpJumpIf, api.OpJumpNot, api.OpAdd, api.OpSub, api.OpUshr, api.OpLess}

// chanceCode is a program by chance that code.Check takes.
func chanceCode(c *chance) api.Program {
	p := api.Program{Funcs: make([]api.Func, 1+c.below(4))}
	for i := range p.Funcs {
		f := &p.Funcs[i]
		f.Regs = 3 + c.below(8)
		f.Consts = []api.Const{{Bits: c.next()}, {IsText: true, Text: c.of("x", "y")}, {IsText: true, Text: c.of("x", "length", "0", "prototype", "next")}, {Bits: 0x4008 << 48}}
		if i > 0 {
			f.Generator, f.Params = c.below(4) == 0, c.below(3)
			f.Captures = make([]api.Capture, c.below(3))
		}
		f.Code = make([]api.Instr, 12+c.below(30))
		if i == 0 || c.below(4) > 0 {
			f.Handlers = []api.Handler{{From: c.below(6), To: 6 + c.below(6), Target: c.below(len(f.Code))}, {From: 0, To: len(f.Code), Target: c.below(len(f.Code))}}
		}
	}
	for i, f := range p.Funcs {
		for k := range f.Code {
			op := c.below(api.Ops + 1)
			if c.below(3) > 0 {
				op = learns[c.below(len(learns))]
			}
			f.Code[k] = chanceInstr(c, p, i, op)
			grow(c, f.Code[:k+1])
		}
		f.Code[len(f.Code)-1] = api.Instr{Op: api.OpJump}
		if i > 0 {
			f.Code[len(f.Code)-1] = api.Instr{Op: api.OpReturn, A: c.below(f.Regs)}
		}
	}
	return p
}

// grow makes groups of what stands behind one another by chance.
func grow(c *chance, l []api.Instr) {
	k := len(l) - 1
	switch op := l[k].Op; {
	case k >= 2 && op >= api.OpAdd && op <= api.OpGreaterEq && c.below(2) == 0:
		l[k-2] = api.Instr{Op: api.OpPrim, A: l[k].B, B: l[k].A}
		l[k-1] = api.Instr{Op: api.OpPrim, A: l[k].C, B: l[k].A}
	case k >= 1 && (op == api.OpJumpIf || op == api.OpJumpNot) && c.below(2) == 0:
		l[k-1] = api.Instr{Op: api.OpLess + c.below(8), A: l[k].A, B: l[k].A, C: l[k].A}
	case k >= 1 && op == api.OpBoxGet && l[k-1].Op == api.OpFree:
		l[k].B = l[k-1].A
	}
}

func chanceInstr(c *chance, p api.Program, of, op int) api.Instr {
	f := p.Funcs[of]
	if of == 0 && (op == api.OpReturn || op == api.OpThrow) && c.below(10) > 0 || op == api.OpYield && !f.Generator || op == api.OpFree && len(f.Captures) == 0 || op == api.OpClosure && len(p.Funcs) == 1 {
		op = api.OpGetNamed
	}
	var l [3]int
	for k, letter := range code.Shape(op) {
		switch letter {
		case 'w', 'r':
			l[k] = c.below(f.Regs)
			if code.Shape(op)[2] == 'n' && k == 1 {
				l[k] = c.below(f.Regs - 1)
			}
		case 'k':
			l[k] = c.below(len(f.Consts))
		case 'x':
			l[k] = 1 + c.below(2)
		case 's':
			l[k] = c.below(5)
		case 'f':
			l[k] = 1 + c.below(len(p.Funcs)-1)
		case 'c':
			l[k] = c.below(len(f.Captures))
		case 'b':
			l[k] = c.below(api.Builtins)
		case 't':
			l[k] = c.below(len(f.Code))
		case 'h':
			l[k] = c.below(2)
		case 'n':
			l[k] = c.below(f.Regs - 1 - l[1])
		}
	}
	return api.Instr{Op: op, A: l[0], B: l[1], C: l[2]}
}

// meddler does to machines what nobody would: with the objects from base on, as a rule.
type meddler struct {
	*chance
	base int
}

// made is how many objects there are from base on.
const made = 16

// furnish makes the objects: some under others, with properties in one order or the other.
func (d meddler) furnish(m *machine.Machine) {
	h := m.Heap()
	for n := range made {
		proto := word.Null
		if n > 0 && d.below(3) > 0 {
			proto = word.Object(uint32(d.base + d.below(n)))
		}
		o, _ := h.Make([]int{api.KindPlain, api.KindPlain, api.KindArray, api.KindFunction, api.KindError}[d.below(5)], proto)
		for range d.below(4) {
			d.put(m, o)
		}
	}
	for n := range 12 {
		m.SetReg(n, d.object())
	}
}

func (d meddler) object() api.Word { return word.Object(uint32(d.base + d.below(made))) }

func (d meddler) put(m *machine.Machine, o api.Word) {
	m.Heap().Put(o, d.of("x", "x", "y", "y", "length", "0", "next"), api.Desc{Value: d.word(m), Set: word.Undefined, Flags: []int{7, 7, 7, 7, 7, 7, 6, 14}[d.below(8)]})
}

func (d meddler) word(m *machine.Machine) api.Word {
	switch d.below(12) {
	case 0:
		return api.Word(d.next())
	case 1:
		return word.Undefined + api.Word(d.below(6))
	case 2:
		w, _ := m.Heap().Text(d.of("x", "1", "length", ""))
		return w
	case 3, 4:
		return word.Int(int32(d.next()) >> d.below(32))
	case 5:
		return word.Object(uint32(d.next()))
	}
	return d.object()
}

func (d meddler) meddle(m *machine.Machine) {
	h := m.Heap()
	o := d.object()
	switch d.below(40) {
	case 0:
		m.Jump(d.below(40) - 2)
	case 1:
		m.Skip()
	case 2, 3, 4:
		d.put(m, o)
	case 5:
		h.Make(d.below(7), o)
	case 6:
		h.SetElem(o, d.below(3), d.word(m))
	case 7:
		h.SetProto(o, []api.Word{word.Null, d.object(), d.object()}[d.below(3)])
	case 8:
		if d.below(20) == 0 {
			h.Drop(o, d.of("x", "y", "length"))
		}
	case 9:
		h.Write(o, d.below(4), d.word(m))
	default:
		m.SetReg(d.below(12)-1, d.word(m))
	}
}

// R1, R6, P18.2 to P18.9: whatever code there is, and whatever is done to the registers, the heap and the places by others in between.
func TestAnythingGoes(t *testing.T) {
	for part := range 8 {
		t.Run(fmt.Sprint(part), func(t *testing.T) {
			t.Parallel()
			c := chance(1000 + part)
			groups, sites := map[[2]int]int{}, map[int]int{}
			for range 80 {
				p := chanceCode(&c)
				if e := code.Check(p); e != api.OK {
					t.Fatal(e)
				}
				b := beside(t, fmt.Sprint(p), p)
				anything(&c, b, groups)
				for at := range b.s.known {
					if b.q.Looked(at.fn, at.pc) > 0 {
						sites[b.q.Site(at.fn, at.pc).State]++
					}
				}
			}
			for _, k := range [][2]int{{1, 1}, {2, 1}, {2, 2}, {3, 1}, {3, 2}, {3, 3}} { // instructions of a group, and how many of them were done
				if groups[k] < 20 {
					t.Error("of a group of", k[0], k[1], "were done", groups[k], "times alone")
				}
			}
			if sites[api.SiteOne] < 25 || sites[api.SiteFew] < 10 || sites[api.SiteMany] < 2 {
				t.Error(sites)
			}
		})
	}
}

func anything(c *chance, b *both, groups map[[2]int]int) {
	b.t.Helper()
	base := b.m.Heap().Objects()
	twice := func(do func(d meddler, m *machine.Machine)) {
		twin := *c
		do(meddler{c, base}, b.m)
		do(meddler{&twin, base}, b.s.m)
	}
	twice(meddler.furnish)
	for k := range 1500 {
		if c.below(2) == 0 {
			twice(meddler.meddle)
		}
		size := 0
		if at := b.s.stands(); at.fn >= 0 {
			for _, g := range b.groups[at.fn] {
				if g.At == at.pc {
					size = g.Len
				}
			}
		}
		groups[[2]int{size, b.step(c.below(6) - 1)}]++
		if k%97 == 0 {
			b.same()
			b.laws()
		}
		if c.below(400) == 0 {
			b.flush()
		}
	}
	b.all()
}
