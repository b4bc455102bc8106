package emit

import (
	"brazier/api"
	"brazier/scope"
)

// variable is the one that a node declares.
func (f *function) variable(n api.Node) *variable { return &f.vars[f.declared[n.At]] }

// declare gives a variable one more register; a captured one has a new box there each time that this is done.
func (f *function) declare(v *variable) {
	v.owner, v.register = f, f.temp()
	f.box(v)
}

func (f *function) box(v *variable) {
	if v.Captured {
		f.emit(api.OpBox, v.register)
	}
}

// fresh declares a variable that has its first value at once. The box, if it needs one, is made behind that.
func (f *function) fresh(v *variable, reckon func(to int)) {
	v.owner, v.register = f, f.temp()
	f.begin(v, func(to int) {
		reckon(to)
		f.box(v)
	})
}

// begin gives a variable that is declared its first value: at once, where nobody can see that ahead of it.
func (f *function) begin(v *variable, reckon func(to int)) {
	mark := f.top
	to := v.register
	if v.Captured {
		to = f.temp()
	}
	reckon(to)
	v.reached = true
	f.put(v, to)
	f.top = mark
}

// put gives a variable of this function a value.
func (f *function) put(v *variable, value int) {
	if v.Captured {
		f.emit(api.OpBoxSet, v.register, value)
	} else {
		f.move(v.register, value)
	}
}

// params are where their arguments come to; of a captured one the box comes to that place.
func (f *function) params(names []api.Node) {
	for i, n := range names {
		v := f.variable(n)
		v.owner, v.register = f, i
		if v.Captured {
			t := f.temp()
			f.emit(api.OpMove, t, i)
			f.emit(api.OpBox, i)
			f.emit(api.OpBoxSet, i, t)
			f.top = t
		}
	}
}

// self gives a function its own name; it needs a register just for those within that take it along.
func (f *function) self(n api.Node) {
	v := f.variable(n)
	v.owner = f
	if v.Captured {
		f.declare(v)
		t := f.temp()
		f.emit(api.OpSelf, t)
		f.put(v, t)
		f.top = t
	}
}

// free tells which one a variable of a function around is of what this one takes along; those between them take it along, too.
func (f *function) free(place int) int {
	if i, ok := f.frees[place]; ok {
		return i
	}
	from := api.Capture{Index: f.vars[place].register}
	if f.vars[place].owner != f.around {
		from = api.Capture{Free: true, Index: f.around.free(place)}
	}
	i := len(f.told.Captures)
	f.frees[place] = i
	f.told.Captures = append(f.told.Captures, from)
	return i
}

// name reads a name. Whether a variable of this function is reached is known here: what its block has behind it can't be come to but through it. Of one around it is known as well, if it was reached ahead of this function.
func (f *function) name(n api.Node, to int) {
	place := f.uses[n.At]
	if place < 0 {
		number, _ := scope.Builtin(n.Name)
		f.emit(api.OpNative, to, number)
		return
	}
	v := &f.vars[place]
	switch {
	case v.owner != f:
		f.emit(api.OpFree, to, f.free(place))
		f.emit(api.OpBoxGet, to, to)
		f.check(v, to)
	case !v.reached:
		f.lacks(v, to)
	case v.Kind == api.VarSelf:
		f.emit(api.OpSelf, to)
	case v.Captured:
		f.emit(api.OpBoxGet, to, v.register)
	default:
		f.move(to, v.register)
	}
}

// give writes to a name.
func (f *function) give(n api.Node, value int) {
	place := f.uses[n.At]
	v := &f.vars[place]
	t := f.top
	switch {
	case v.owner != f:
		f.giveFree(place, value)
	case !v.reached:
		f.lacks(v, f.temp())
	default:
		f.put(v, value)
	}
	f.top = t
}

func (f *function) giveFree(place, value int) {
	v, t := &f.vars[place], f.temp()
	box := f.free(place)
	if !v.reached {
		f.emit(api.OpFree, t, box)
		f.emit(api.OpBoxGet, t, t)
		f.check(v, t)
	}
	f.emit(api.OpFree, t, box)
	f.emit(api.OpBoxSet, t, value)
}

// check throws, if a variable that may not have been reached has a hole.
func (f *function) check(v *variable, value int) {
	if !v.reached {
		f.emit(api.OpHole, value, f.text(v.Name))
	}
}

// lacks throws: the variable can't have been reached.
func (f *function) lacks(v *variable, t int) {
	f.emit(api.OpSmall, t, api.SmallHole)
	f.check(v, t)
}
