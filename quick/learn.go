package quick

import (
	"brazier/api"
	"brazier/caches"
	"brazier/props"
	"brazier/small"
	"brazier/word"
)

// place is what is known at a place of the code.
type place struct {
	site   api.Site
	arith  int
	call   int
	target api.Word // what was called, while call is CallOne
	looked int
	turned int
}

// become gives a state of a place another value, if it is another one.
func (p *place) become(state *int, to int) {
	if *state != to {
		*state = to
		p.turned++
	}
}

// answer is what an instruction does that a register is all of.
func (q *Quick) answer(reg int, w api.Word) {
	q.machine.SetReg(reg, w)
	q.machine.Skip()
}

func (q *Quick) arith(p *place, i api.Instr) {
	b, c := q.machine.Reg(i.B), q.machine.Reg(i.C)
	if p.arith == api.ArithInt {
		if w, ok := small.Fast(i.Op, b, c); ok {
			q.answer(i.A, w)
			return
		}
	}
	p.become(&p.arith, caches.Arith(p.arith, b, c))
	q.machine.Step()
}

func (q *Quick) call(p *place, i api.Instr) {
	state, target := caches.Call(p.call, p.target, q.machine.Reg(i.B))
	p.become(&p.call, state)
	p.target = target
	q.machine.Step()
}

// get reads the property of a name.
func (q *Quick) get(p *place, i api.Instr, key string) {
	o := q.machine.Reg(i.B)
	if e, ok := q.find(p, o); ok {
		d, _ := q.heap.Slot(holder(o, e), e.Slot)
		q.answer(i.A, d.Value)
		return
	}
	q.look(p, o, key, q.readable)
	q.machine.Step()
}

// set writes the property of a name.
func (q *Quick) set(p *place, i api.Instr, key string) {
	o, w := q.machine.Reg(i.A), q.machine.Reg(i.C)
	if e, ok := q.find(p, o); ok {
		q.heap.Write(o, e.Slot, w)
		q.machine.Skip()
		return
	}
	q.look(p, o, key, q.writable)
	q.machine.Step()
}

// find is what is known of an object's shape.
func (q *Quick) find(p *place, o api.Word) (api.Entry, bool) {
	shape, ok := q.heap.Shape(o)
	if !ok {
		return api.Entry{}, false
	}
	return caches.Find(p.site, shape, q.valid)
}

// look looks for a property in full, and learns where it is, if that may be known.
func (q *Quick) look(p *place, o api.Word, key string, where func(o api.Word, key string) (api.Entry, bool)) {
	p.looked++
	if p.site.State == api.SiteMany {
		return
	}
	if e, ok := where(o, key); ok {
		p.site = caches.Learn(p.site, e, q.valid)
		p.turned++
	}
}

// readable is where an object, or what stands above it, has data. What lies on the way must have shapes: nothing else tells that a key is not there.
func (q *Quick) readable(o api.Word, key string) (api.Entry, bool) {
	first, _ := q.heap.Shape(o)
	for at := o; ; at = q.heap.Proto(at) {
		shape, ok := q.laid(at, key)
		if !ok {
			return api.Entry{}, false
		}
		slot, flags, has := q.heap.Find(shape, key)
		switch {
		case !has:
			continue
		case flags&api.Accessor != 0:
			return api.Entry{}, false
		case at == o:
			return api.Entry{Shape: first, Slot: slot, Cell: -1}, true
		}
		return api.Entry{Shape: first, Holder: above(at), Slot: slot, Cell: q.heap.Guard(q.heap.Proto(o))}, true
	}
}

// writable is where an object has data of its own that may be written.
func (q *Quick) writable(o api.Word, key string) (api.Entry, bool) {
	shape, ok := q.laid(o, key)
	if !ok {
		return api.Entry{}, false
	}
	slot, flags, has := q.heap.Find(shape, key)
	if !has || flags&(api.Writable|api.Accessor) != api.Writable {
		return api.Entry{}, false
	}
	return api.Entry{Shape: shape, Slot: slot, Cell: -1}, true
}

// laid is an object's shape, if that tells where the key lies, or that it is not there.
func (q *Quick) laid(o api.Word, key string) (int, bool) {
	shape, ok := q.heap.Shape(o)
	if !ok || q.isElsewhere(o, key) {
		return 0, false
	}
	return shape, true
}

// isElsewhere: an array keeps its length and its elements in no slot.
func (q *Quick) isElsewhere(o api.Word, key string) bool {
	if kind, _ := q.heap.Kind(o); kind != api.KindArray {
		return false
	}
	_, isIndex := props.Index(key)
	return isIndex || key == "length"
}

// above is the Holder of an entry whose property is a prototype's; holder is the object that an entry names.
func above(o api.Word) int {
	n, _ := word.IsObject(o)
	return int(n) + 1
}

func holder(o api.Word, e api.Entry) api.Word {
	if e.Holder == 0 {
		return o
	}
	return word.Object(uint32(e.Holder - 1))
}
