package emit

import "brazier/api"

// emitter makes a program's functions. Nodes are known by their places, of which no two names that are used have the same, and no two nodes that declare.
type emitter struct {
	funcs    []api.Func
	signs    map[string]int
	vars     []variable
	uses     map[int]int // of names that are used: the variable, or -1
	declared map[int]int // of nodes that declare: the variable
}

// variable is one that has a register in its function, once its block has begun: there is its value, or, if it is Captured, the box of that.
type variable struct {
	api.Var
	owner    *function
	register int
	reached  bool
}

func newEmitter(s api.Scoped) *emitter {
	e := &emitter{signs: signs(), uses: map[int]int{}, declared: map[int]int{}}
	for i, v := range s.Vars {
		e.vars = append(e.vars, variable{Var: v, reached: v.Kind != api.VarLet && v.Kind != api.VarConst})
		e.declared[v.At] = i
	}
	for _, u := range s.Uses {
		e.uses[u.At] = u.Var
	}
	return e
}

func (e *emitter) program(n api.Node) {
	e.build(nil, api.Func{}, func(f *function) { f.items(n.Kids) })
}

// closure makes the function of a node that stands in another one, and tells its number.
func (e *emitter) closure(n api.Node, around *function) int {
	params, body := n.Kids[:len(n.Kids)-1], n.Kids[len(n.Kids)-1]
	begun := api.Func{Name: n.Name, Params: len(params), Generator: n.Op == "*"}
	return e.build(around, begun, func(f *function) {
		f.params(params)
		if n.Kind == api.NodeFunction && n.Name != "" {
			f.self(n)
		}
		f.items(body.Kids)
	})
}

// build makes a function, and tells its number. Its place is taken ahead of those of the functions within it.
func (e *emitter) build(around *function, begun api.Func, body func(f *function)) int {
	number := len(e.funcs)
	e.funcs = append(e.funcs, api.Func{})
	f := &function{emitter: e, around: around, told: begun, consts: map[api.Const]int{}, frees: map[int]int{}}
	f.take(begun.Params)
	body(f)
	f.giveBack(api.Node{})
	e.funcs[number] = f.told
	return number
}
