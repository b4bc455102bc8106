package fuse_test

import (
	"fmt"
	"math"
	"slices"
	"testing"

	"brazier/api"
	"brazier/code"
	"brazier/fuse"
)

// modelGroups: a second reading of P10.1: at each place every row of the table is tried, and asked of each of its instructions but the first whether anything goes there.
func modelGroups(f api.Func) []api.Group {
	goesTo := func(at int) bool {
		for _, i := range f.Code {
			if i.Op == api.OpJump && i.A == at || (i.Op == api.OpJumpIf || i.Op == api.OpJumpNot) && i.B == at {
				return true
			}
		}
		return slices.ContainsFunc(f.Handlers, func(h api.Handler) bool { return h.Target == at })
	}
	rows := []struct {
		kind, n int
		is      func(l []api.Instr) bool
	}{
		{api.GroupArith, 3, func(l []api.Instr) bool {
			is := slices.Contains([]int{21, 22, 23, 24, 25, 26, 27, 28, 29, 30, 31, 32, 33, 34, 35}, l[2].Op)
			return is && l[0].Op == 13 && l[1].Op == 13 && l[2].B == l[0].A && l[2].C == l[1].A
		}},
		{api.GroupTest, 2, func(l []api.Instr) bool {
			is := slices.Contains([]int{32, 33, 34, 35, 36, 37, 38, 39}, l[0].Op)
			return is && slices.Contains([]int{58, 59}, l[1].Op) && l[0].A == l[1].A
		}},
		{api.GroupFree, 2, func(l []api.Instr) bool { return l[0].Op == 10 && l[1].Op == 8 && l[0].A == l[1].B }},
		{api.GroupMoves, 2, func(l []api.Instr) bool { return l[0].Op == 3 && l[1].Op == 3 }},
		{api.GroupOne, 1, func(l []api.Instr) bool { return true }},
	}
	var out []api.Group
	for at := 0; at < len(f.Code); {
		for _, r := range rows {
			ok := at+r.n <= len(f.Code)
			for k := at + 1; ok && k < at+r.n; k++ {
				ok = !goesTo(k)
			}
			if ok && r.is(f.Code[at:at+r.n]) {
				out = append(out, api.Group{At: at, Len: r.n, Kind: r.kind})
				at += r.n
				break
			}
		}
	}
	return out
}

// uneven: what P10.3 says, and is not so: groups cover the code, one behind the other; nothing jumps into one but at its beginning.
func uneven(f api.Func, l []api.Group) string {
	at := 0
	inside := map[int]bool{}
	for _, g := range l {
		if g.At != at || g.Len < 1 {
			return fmt.Sprintf("%v stands at %d", g, at)
		}
		for k := 1; k < g.Len; k++ {
			inside[at+k] = true
		}
		at += g.Len
	}
	if at != len(f.Code) {
		return fmt.Sprintf("the groups end at %d", at)
	}
	for _, to := range code.Starts(f) {
		if inside[to] {
			return fmt.Sprintf("%d is a start", to)
		}
	}
	for k := range f.Code {
		for _, to := range code.Next(f, k) {
			if inside[to] && to != k+1 {
				return fmt.Sprintf("from %d to %d", k, to)
			}
		}
	}
	return ""
}

// modelWhere: a second reading of P10.2.
func modelWhere(l []api.Group, at int) (int, int, bool) {
	for i, g := range l {
		if g.At > at || g.Len <= 0 {
			continue
		}
		// at < At + Len, as at - (Len - 1) <= At, if that is a number; if it is none, it is below them all.
		low := at - (g.Len - 1)
		if low > at || low <= g.At {
			return i, at - g.At, true
		}
	}
	return 0, 0, false
}

// anyCode: code made by chance, of what groups are made of, mostly; it may be wrong.
func anyCode(c *chance) api.Func {
	var l []api.Instr
	size := c.below(24)
	far := func() int {
		return c.of(c.below(size+1), c.below(size+1), c.below(size+1), -1, 60, 61, 1000, math.MinInt, math.MaxInt)
	}
	for len(l) < size {
		piece := slices.Clone(fits(c.below(5)))
		for i := range piece {
			p := &piece[i]
			switch c.below(12) {
			case 0:
				p.Op = c.of(api.OpAdd-1, api.OpAdd, api.OpXor, api.OpLess, api.OpGreaterEq, api.OpEqual, api.OpNotSame, api.OpNotSame+1, api.OpJump, api.OpJumpNot, api.OpPrim, api.OpPrimIf, -1, 63)
			case 1:
				p.A = c.of(0, 1, 2, 3)
			case 2:
				p.B = c.of(0, 1, 2, 3)
			case 3:
				p.C = c.of(0, 1, 2, 3)
			}
			if p.Op == api.OpJump {
				p.A = far()
			} else if p.Op == api.OpJumpIf || p.Op == api.OpJumpNot {
				p.B = far()
			}
		}
		l = append(l, piece...)
	}
	f := api.Func{Regs: 6, Code: l}
	for c.below(4) == 0 {
		f.Handlers = append(f.Handlers, api.Handler{From: far(), To: far(), Target: far()})
	}
	return f
}

// P10.1, P10.3: by chance, against a second reading.
func TestGroupsAgainstModel(t *testing.T) {
	c := chance(101)
	var seen [5]int
	for range 60000 {
		f := anyCode(&c)
		got, want := fuse.Groups(f), modelGroups(f)
		if !slices.Equal(got, want) {
			t.Fatalf("%+v has the groups %v, not %v", f, got, want)
		}
		if why := uneven(f, got); why != "" {
			t.Fatalf("%+v: %v: %s", f, got, why)
		}
		for _, g := range got {
			seen[g.Kind]++
		}
	}
	if slices.Min(seen[:]) < 10000 {
		t.Error("few of a kind:", seen)
	}
}

// P10.2: by chance, against a second reading.
func TestWhereAgainstModel(t *testing.T) {
	c := chance(102)
	any := func() int {
		n := c.of(c.below(12), c.below(12), c.below(12), -c.below(12), math.MinInt, math.MinInt+1, math.MaxInt-1, math.MaxInt, math.MaxInt/2, math.MinInt/2)
		return n + c.of(0, 0, 0, c.below(4)-2)*c.of(1, 1, 1<<33)
	}
	found := 0
	for range 200000 {
		l := make([]api.Group, c.below(5))
		for i := range l {
			l[i] = api.Group{At: any(), Len: any(), Kind: c.below(5)}
		}
		at := any()
		i, far, ok := fuse.Where(l, at)
		i2, far2, ok2 := modelWhere(l, at)
		if i != i2 || far != far2 || ok != ok2 {
			t.Fatalf("Where(%v, %d) is %d %d %t, not %d %d %t", l, at, i, far, ok, i2, far2, ok2)
		}
		if ok {
			found++
		}
	}
	if found < 20000 {
		t.Error("few are found:", found)
	}
}
