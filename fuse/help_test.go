package fuse_test

import (
	"slices"
	"testing"

	"brazier/api"
	"brazier/emit"
	"brazier/fuse"
	"brazier/parse"
	"brazier/scope"
)

// chance: numbers that look random, the same each time.
type chance uint64

func (c *chance) below(n int) int {
	*c += 0x9e3779b97f4a7c15
	z := uint64(*c)
	z = (z ^ z>>30) * 0xbf58476d1ce4e5b9
	z = (z ^ z>>27) * 0x94d049bb133111eb
	return int((z ^ z>>31) % uint64(n))
}

func (c *chance) of(l ...int) int { return l[c.below(len(l))] }

func do(op, a, b, c int) api.Instr { return api.Instr{Op: op, A: a, B: b, C: c} }

var (
	nop  = do(api.OpNop, 0, 0, 0)
	back = do(api.OpReturn, 0, 0, 0)
)

// fits: an ordinary group of each kind.
func fits(kind int) []api.Instr {
	switch kind {
	case api.GroupArith:
		return []api.Instr{do(api.OpPrim, 1, 4, 0), do(api.OpPrim, 2, 5, 0), do(api.OpAdd, 0, 1, 2)}
	case api.GroupTest:
		return []api.Instr{do(api.OpLess, 3, 1, 2), do(api.OpJumpIf, 3, 0, 0)}
	case api.GroupFree:
		return []api.Instr{do(api.OpFree, 2, 0, 0), do(api.OpBoxGet, 1, 2, 0)}
	case api.GroupMoves:
		return []api.Instr{do(api.OpMove, 1, 2, 0), do(api.OpMove, 3, 4, 0)}
	}
	return []api.Instr{nop}
}

// kinds: all kinds, in the chapter's order.
var kinds = []int{api.GroupArith, api.GroupTest, api.GroupFree, api.GroupMoves, api.GroupOne}

// groups: those of the lengths that the kinds have, one behind the other.
func groups(l ...int) []api.Group {
	var out []api.Group
	at := 0
	for _, k := range l {
		n := len(fits(k))
		out = append(out, api.Group{At: at, Len: n, Kind: k})
		at += n
	}
	return out
}

// ones: n groups of one.
func ones(n int) []int { return make([]int, n) }

// hasGroups: a function's groups are those of these kinds, and they are what P10.3 says.
func hasGroups(t *testing.T, what string, f api.Func, l ...int) {
	t.Helper()
	if got, want := fuse.Groups(f), groups(l...); !slices.Equal(got, want) {
		t.Errorf("%s: %+v has the groups %v, not %v", what, f, got, want)
	}
	if why := uneven(f, fuse.Groups(f)); why != "" {
		t.Errorf("%s: %+v: %s", what, f, why)
	}
}

// cat: pieces of code, one behind the other.
func cat(l ...[]api.Instr) []api.Instr { return slices.Concat(l...) }

// program: a text's code.
func program(t *testing.T, s string) api.Program {
	t.Helper()
	n, at, e := parse.Parse(s)
	if e != api.OK {
		t.Fatalf("%s: parse: %d at %d", s, e, at)
	}
	x, at, e := scope.Resolve(n)
	if e != api.OK {
		t.Fatalf("%s: scope: %d at %d", s, e, at)
	}
	p, e := emit.Program(n, x)
	if e != api.OK {
		t.Fatalf("%s: emit: %d", s, e)
	}
	return p
}

// programs: texts of the language in which all its parts stand.
func programs() []string {
	return []string{
		``,
		`print(1 + 2);`,
		`let a = 1; let b = 2; a = b; b = a; print(a < b, a === b, a != b);`,
		`let i = 0; while (i < 10) { i++; if (i == 5) { continue; } if (i !== 7) { print(i); } else { break; } }`,
		`let i = 0; let j = 0; for (i = 0; i <= 3; i += 1) { for (j = i; j >= 0; j--) { print(i * j, i - j, i / j, i % j); } }`,
		`let a = 3; let b = 0; while (a !== b) { b++; if (a === b) { print(b); } if (a == b) { print(a); } print(a != b ? a : b); }`,
		`function f(a, b) { let c = 0; return function () { c += a; b -= c; return a > b ? c : b; }; } print(f(1, 2)());`,
		`let o = {a: 1, get b() { return this.a << 2; }, set b(v) { this.a = v >>> 1; }}; o.b = 5; o.a++; print(o.b | 1, o.b & 3, o.b ^ 7, ~o.b);`,
		`function* g(n) { let i = 0; try { while (i < n) { yield i; i++; } } finally { print("end", i); } } for (const x of g(2)) { print(x); }`,
		`try { null.x; } catch (e) { print(e); } finally { print(1); }`,
		`let f = []; for (const x of [1, 2]) { f.push(function () { return x; }); } print(f[0](), f[1]());`,
		`function P(a) { this.a = a; } P.prototype.get = function () { return this.a; }; print(new P(4).get() instanceof P, "a" in P);`,
		`let n = 2147483647; n++; print(n, n | 0, 1 / -0, 0.1 + 0.2);`,
		`let x = 1; a: while (x < 100 && x != 64 || x === 32) { while (true) { x = x + x; if (x > 9) { continue a; } } } print(x, !x, -x, +x, typeof x, void x);`,
	}
}
