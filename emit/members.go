package emit

import "brazier/api"

// member is where a property is found: the register of its object, and of its key; or that key's constant.
type member struct {
	object int
	named  bool
	key    int
}

// member reckons a member's object, and its key, into one more register if it needs one.
func (f *function) member(n api.Node, object int) member {
	f.into(n.Kids[0], object)
	key := n.Kids[1]
	if key.Kind == api.NodeString {
		return member{object, true, f.text(key.Name)}
	}
	t := f.temp()
	f.key(key, t)
	return member{object, false, t}
}

// key reckons a key; a text is one as it is.
func (f *function) key(n api.Node, to int) {
	f.into(n, to)
	if n.Kind != api.NodeString {
		f.makeKey(to)
	}
}

func (f *function) get(m member, to int) {
	if m.named {
		f.emit(api.OpGetNamed, to, m.object, m.key)
	} else {
		f.emit(api.OpGet, to, m.object, m.key)
	}
}

func (f *function) set(m member, value int) {
	if m.named {
		f.emit(api.OpSetNamed, m.object, m.key, value)
	} else {
		f.emit(api.OpSet, m.object, m.key, value)
	}
}

// remove deletes a member; of what is none there is nothing to delete.
func (f *function) remove(n api.Node, to int) {
	if n.Kind != api.NodeMember {
		f.into(n, to)
		f.emit(api.OpSmall, to, api.SmallTrue)
		return
	}
	f.into(n.Kids[0], to)
	key := f.temp()
	f.key(n.Kids[1], key)
	f.emit(api.OpDelete, to, to, key)
}

// row is the first register of a call's: the one to which its answer comes, if others can be taken right behind it.
func (f *function) row(to int) int {
	if to == f.top-1 {
		return to
	}
	return f.temp()
}

func (f *function) call(n api.Node, to int) {
	row := f.row(to)
	this := f.temp()
	if callee := n.Kids[0]; callee.Kind == api.NodeMember {
		f.method(callee, row, this)
	} else {
		f.into(callee, row)
		f.emit(api.OpSmall, this, api.SmallUndefined)
	}
	f.values(n.Kids[1:])
	f.emit(api.OpCall, to, row, len(n.Kids)-1)
}

// method reads a member that is called; its key needs no register but that of what is read.
func (f *function) method(n api.Node, to, this int) {
	f.into(n.Kids[0], this)
	key := n.Kids[1]
	if key.Kind == api.NodeString {
		f.get(member{this, true, f.text(key.Name)}, to)
		return
	}
	f.key(key, to)
	f.get(member{this, false, to}, to)
}

func (f *function) make(n api.Node, to int) {
	row := f.row(to)
	f.into(n.Kids[0], row)
	f.temp() // where a call has its this
	f.values(n.Kids[1:])
	f.emit(api.OpNew, to, row, len(n.Kids)-1)
}

// values are reckoned into registers in a row.
func (f *function) values(l []api.Node) {
	for _, n := range l {
		f.value(n)
	}
}
