package cells

// ground is what a cell stands on that stands on no other one.
const ground = -1

// none is no cell on top: the first cell has none below it, so that its number is free to say so.
const none = 0

// entry is a cell. It knows those that were made on top of it: the last of them, and by that one the others, each beside the next.
type entry struct {
	valid       bool
	top, beside int
}

// lift takes the last one off a cell's top: so a Break comes by each of them once.
func (c *Cells) lift(from int) int {
	top := c.all[from].top
	if top != none {
		c.all[from].top = c.all[top].beside
	}
	return top
}
