package emit_test

import (
	"fmt"
	"math"

	"brazier/api"
)

// runner runs code as chapter 17 says.
type runner struct {
	*world
	program api.Program
}

type box struct{ value value }

// running is a call that is under way.
type running struct {
	*runner
	code   api.Func
	regs   []value
	this   value
	self   *object
	taken  []*box
	pc, at int // the next instruction, the one that is being done
	caught []value
}

// What comes of doing instructions.
const (
	goesOn = iota
	returns
	yields
)

// runCode runs a program, and tells what it printed, and how it ended.
func runCode(p api.Program, fuel int) ([]string, string) {
	r := &runner{world: newWorld(fuel), program: p}
	how := r.ended(func() { r.begin(0, nil, nil, nil, nil).run() })
	return r.log, how
}

// ended tells how something ends.
func (w *world) ended(run func()) (how string) {
	defer func() {
		switch x := recover().(type) {
		case nil:
		case thrown:
			how = "thrown " + w.shown(x.value)
		case outOfFuel:
			how = "out of fuel"
		default:
			panic(x)
		}
	}()
	run()
	return "done"
}

func (r *runner) begin(number int, self *object, taken []*box, this value, args []value) *running {
	c := r.program.Funcs[number]
	f := &running{runner: r, code: c, regs: make([]value, c.Regs), this: this, self: self, taken: taken}
	copy(f.regs[:c.Params], args)
	return f
}

func (f *running) run() (value, bool) {
	for {
		if what, v := f.attempt(); what != goesOn {
			return v, what == returns
		}
	}
}

// attempt does instructions until something is thrown, returned, yielded.
func (f *running) attempt() (what int, v value) {
	defer func() {
		r := recover()
		if r == nil {
			return
		}
		t, ok := r.(thrown)
		if !ok {
			panic(r)
		}
		for _, h := range f.code.Handlers {
			if h.From <= f.at && f.at < h.To {
				f.pc, f.caught = h.Target, []value{t.value}
				what = goesOn
				return
			}
		}
		panic(t)
	}()
	for what == goesOn {
		f.burn()
		f.at = f.pc
		f.pc++
		what, v = f.step(f.code.Code[f.at])
	}
	return what, v
}

// read is a register that has a value, no box or hole.
func (f *running) read(r int) value {
	switch f.regs[r].(type) {
	case *box, hole:
		panic(fmt.Sprintf("%d: register %d has %T", f.at, r, f.regs[r]))
	}
	return f.regs[r]
}

// primitive is a register that has one.
func (f *running) primitive(r int) value {
	v := f.read(r)
	if _, ok := v.(*object); ok {
		panic(fmt.Sprintf("%d: register %d has an object", f.at, r))
	}
	return v
}

func (f *running) key(r int) string { return f.read(r).(string) }

func (f *running) constant(i int) value {
	c := f.code.Consts[i]
	if c.IsText {
		return c.Text
	}
	return math.Float64frombits(c.Bits)
}

func (f *running) step(i api.Instr) (int, value) {
	switch {
	case i.Op >= api.OpAdd && i.Op <= api.OpNotSame:
		f.regs[i.A] = f.operation(i)
		return goesOn, nil
	case i.Op >= api.OpGet && i.Op <= api.OpDefSet:
		f.property(i)
		return goesOn, nil
	case i.Op >= api.OpPrim && i.Op <= api.OpText:
		f.regs[i.A] = f.conversion(i)
		return goesOn, nil
	case i.Op >= api.OpReturn && i.Op <= api.OpYield:
		return f.flow(i)
	}
	f.other(i)
	return goesOn, nil
}

var signOf = map[int]string{
	api.OpAdd: "+", api.OpSub: "-", api.OpMul: "*", api.OpDiv: "/", api.OpRem: "%", api.OpShl: "<<", api.OpShr: ">>", api.OpUshr: ">>>",
	api.OpAnd: "&", api.OpOr: "|", api.OpXor: "^", api.OpLess: "<", api.OpLessEq: "<=", api.OpGreater: ">", api.OpGreaterEq: ">=",
	api.OpEqual: "==", api.OpNotEqual: "!=", api.OpSame: "===", api.OpNotSame: "!==",
}

func (f *running) operation(i api.Instr) value {
	if i.Op >= api.OpEqual {
		return operate(signOf[i.Op], f.read(i.B), f.read(i.C))
	}
	return operate(signOf[i.Op], f.primitive(i.B), f.primitive(i.C))
}

func (f *running) conversion(i api.Instr) value {
	switch i.Op {
	case api.OpPrim:
		return f.prim(f.read(i.B), i.C == 1)
	case api.OpPrimIf:
		return f.primIf(f.read(i.B), f.read(i.C))
	case api.OpNum:
		return number(f.primitive(i.B))
	case api.OpNeg:
		return -f.read(i.B).(float64)
	case api.OpBitNot:
		return float64(^toInt32(f.read(i.B).(float64)))
	case api.OpNot:
		return !truthy(f.read(i.B))
	case api.OpTypeof:
		return typeOf(f.read(i.B))
	}
	return text(f.primitive(i.B))
}

func (f *running) property(i api.Instr) {
	switch i.Op {
	case api.OpGet:
		f.regs[i.A] = f.get(f.read(i.B), f.key(i.C))
	case api.OpSet:
		f.set(f.read(i.A), f.key(i.B), f.read(i.C))
	case api.OpGetNamed:
		f.regs[i.A] = f.get(f.read(i.B), f.constant(i.C).(string))
	case api.OpSetNamed:
		f.set(f.read(i.A), f.constant(i.B).(string), f.read(i.C))
	case api.OpDelete:
		f.regs[i.A] = f.remove(f.read(i.B), f.key(i.C))
	case api.OpIn:
		f.regs[i.A] = f.in(f.key(i.B), f.read(i.C))
	case api.OpInstance:
		f.regs[i.A] = f.instance(f.read(i.B), f.read(i.C))
	case api.OpObject:
		f.regs[i.A] = f.object(f.proto["Object"])
	case api.OpArray:
		f.regs[i.A] = f.array()
	case api.OpPush:
		o := f.read(i.A).(*object)
		o.elems = append(o.elems, f.read(i.B))
	case api.OpDef:
		f.define(f.read(i.A), f.key(i.B), f.read(i.C), "init")
	case api.OpDefGet:
		f.define(f.read(i.A), f.key(i.B), f.read(i.C), "get")
	case api.OpDefSet:
		f.define(f.read(i.A), f.key(i.B), f.read(i.C), "set")
	}
}

func (f *running) flow(i api.Instr) (int, value) {
	switch i.Op {
	case api.OpReturn:
		return returns, f.read(i.A)
	case api.OpThrow:
		panic(thrown{f.read(i.A)})
	case api.OpJump:
		f.pc = i.A
	case api.OpJumpIf:
		if truthy(f.read(i.A)) {
			f.pc = i.B
		}
	case api.OpJumpNot:
		if !truthy(f.read(i.A)) {
			f.pc = i.B
		}
	case api.OpYield:
		return yields, f.read(i.A)
	}
	return goesOn, nil
}

func (f *running) other(i api.Instr) {
	switch i.Op {
	case api.OpConst:
		f.regs[i.A] = f.constant(i.B)
	case api.OpSmall:
		f.regs[i.A] = []value{nil, null{}, false, true, hole{}}[i.B]
	case api.OpMove:
		f.regs[i.A] = f.read(i.B)
	case api.OpThis:
		f.regs[i.A] = f.this
	case api.OpSelf:
		f.regs[i.A] = f.self
	case api.OpNative:
		f.regs[i.A] = f.builtins[i.B]
	case api.OpBox:
		f.regs[i.A] = &box{hole{}}
	case api.OpBoxGet:
		f.regs[i.A] = f.regs[i.B].(*box).value
	case api.OpBoxSet:
		f.regs[i.A].(*box).value = f.read(i.B)
	case api.OpFree:
		f.regs[i.A] = f.taken[i.B]
	case api.OpHole:
		if f.regs[i.A] == (hole{}) {
			f.throw("ReferenceError", f.constant(i.B).(string))
		}
	case api.OpClosure:
		f.regs[i.A] = f.closure(i.B)
	case api.OpCall:
		f.regs[i.A] = f.call(f.read(i.B), f.read(i.B+1), f.args(i)...)
	case api.OpNew:
		f.regs[i.A] = f.construct(f.read(i.B), f.args(i)...)
	case api.OpCatch:
		f.regs[i.A], f.caught = f.caught[0], nil
	case api.OpIterable:
		if _, ok := f.read(i.A).(*object); !ok {
			f.throw("TypeError", "iterator")
		}
	default:
		panic(fmt.Sprint("no instruction: ", i))
	}
}

func (f *running) args(i api.Instr) []value {
	var l []value
	for k := range i.C {
		l = append(l, f.read(i.B+2+k))
	}
	return l
}

func (f *running) closure(number int) value {
	c := f.program.Funcs[number]
	var taken []*box
	for _, t := range c.Captures {
		if t.Free {
			taken = append(taken, f.taken[t.Index])
		} else {
			taken = append(taken, f.regs[t.Index].(*box))
		}
	}
	var o *object
	o = f.function(c.Generator, func(this value, args []value) value {
		v, _ := f.begin(number, o, taken, this, args).run()
		return v
	}, func(this value, args []value) func(int, value) (value, bool) {
		return f.begin(number, o, taken, this, args).resume
	})
	return o
}

func (f *running) resume(how int, sent value) (value, bool) {
	if f.pc > 0 {
		i := f.code.Code[f.at]
		f.regs[i.A], f.regs[i.B] = sent, float64(how)
	}
	return f.run()
}
