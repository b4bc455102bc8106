package cells_test

import (
	"math"
	"slices"
	"testing"

	"brazier/cells"
)

// model is a second reading of the chapter: a cell is valid if one comes down from it to -1 by cells that were made earlier, none of them broken by itself.
type model struct {
	on     []int
	broken []bool
}

func (m *model) valid(cell int) bool {
	if cell < 0 || cell >= len(m.on) {
		return false
	}
	for cell != -1 {
		below := m.on[cell]
		if m.broken[cell] || below < -1 || below >= cell {
			return false
		}
		cell = below
	}
	return true
}

func (m *model) look() []bool {
	all := make([]bool, len(m.on))
	for n := range all {
		all[n] = m.valid(n)
	}
	return all
}

func (m *model) do(c call) int {
	if c.name == "Make" {
		m.on, m.broken = append(m.on, c.of), append(m.broken, false)
		return len(m.on) - 1
	}
	if !m.valid(c.of) {
		return 0
	}
	old := m.look()
	m.broken[c.of] = true
	return lost(old, m.look())
}

// anyCall: a call by chance, of the cells that there are, mostly, and among these of the last ones, often.
func anyCall(c *chance, count, breaks int) call {
	ends := []int{math.MinInt, -2, -1, count, count + 1, count + 5, math.MaxInt}
	of := ends[c.below(len(ends))]
	switch r := c.below(10); {
	case r == 0:
	case r < 3:
		of = -1
	case count > 0 && r < 6:
		of = count - 1 - c.below(min(count, 4))
	case count > 0:
		of = c.below(count)
	}
	if c.below(100) < breaks {
		return broke(of, 0)
	}
	return laid(of, 0)
}

// P12.1 to P12.3: calls by chance, against a second reading; the same calls of another row tell the same (R6).
func TestAgainstModel(t *testing.T) {
	c := chance(121)
	for range 300 {
		m := &model{}
		x, twin := cells.New(), cells.New()
		breaks := []int{2, 5, 15, 40, 80}[c.below(5)]
		var done []call
		for range 120 {
			k := anyCall(&c, x.Count(), breaks)
			k.want = m.do(k)
			done = append(done, k)
			if got, again := k.do(x), k.do(twin); got != k.want || again != got {
				t.Fatalf("%v: the last tells %d, then %d", done, got, again)
			}
			if got := look(x); !slices.Equal(got, m.look()) {
				t.Fatalf("%v: then %v, not %v", done, got, m.look())
			}
		}
	}
}

// P12.3: each cell's way: once it is not valid it never is again, whatever is made and broken; and all Breaks together tell how many that were valid are not.
func TestNeverAgain(t *testing.T) {
	c := chance(122)
	for range 100 {
		x := cells.New()
		was, told := 0, 0
		for range 300 {
			k := anyCall(&c, x.Count(), 20)
			old := look(x)
			n := k.do(x)
			now := look(x)
			if k.name == "Break" {
				told += n
			} else if x.Valid(n) {
				was++
			}
			if lost(old, now) < 0 || k.name == "Make" && lost(old, now) != 0 {
				t.Fatalf("%v: from %v to %v", k, old, now)
			}
		}
		left := 0
		for n := range x.Count() {
			if x.Valid(n) {
				left++
			}
		}
		if was != told+left {
			t.Errorf("%d were valid, %d broke, %d are valid", was, told, left)
		}
	}
}
