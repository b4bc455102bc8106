package fuse

import "brazier/api"

// behind are the starts behind a place: only these may part the instructions from there on, since a group may be begun at a start.
func behind(starts []int, at int) []int {
	for len(starts) > 0 && starts[0] <= at {
		starts = starts[1:]
	}
	return starts
}

// end is the place at which a group must end: the next start, if it is in the code.
func end(l []api.Instr, starts []int) int {
	if len(starts) > 0 && starts[0] < len(l) {
		return starts[0]
	}
	return len(l)
}

// first is the first kind of group, in the chapter's order, with which instructions begin, and how many are of it.
func first(l []api.Instr) (int, int) {
	switch {
	case isArith(l):
		return api.GroupArith, 3
	case isTest(l):
		return api.GroupTest, 2
	case isFree(l):
		return api.GroupFree, 2
	case isMoves(l):
		return api.GroupMoves, 2
	}
	return api.GroupOne, 1
}

func isArith(l []api.Instr) bool {
	return len(l) >= 3 && l[0].Op == api.OpPrim && l[1].Op == api.OpPrim &&
		l[2].Op >= api.OpAdd && l[2].Op <= api.OpGreaterEq && l[2].B == l[0].A && l[2].C == l[1].A
}

func isTest(l []api.Instr) bool {
	return len(l) >= 2 && l[0].Op >= api.OpLess && l[0].Op <= api.OpNotSame &&
		(l[1].Op == api.OpJumpIf || l[1].Op == api.OpJumpNot) && l[1].A == l[0].A
}

func isFree(l []api.Instr) bool {
	return len(l) >= 2 && l[0].Op == api.OpFree && l[1].Op == api.OpBoxGet && l[1].B == l[0].A
}

func isMoves(l []api.Instr) bool {
	return len(l) >= 2 && l[0].Op == api.OpMove && l[1].Op == api.OpMove
}
