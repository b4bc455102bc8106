package heap

import (
	"cmp"
	"slices"

	"brazier/api"
)

// property is a key and what is laid under it; came is greater than that of each one that was laid ahead of it.
type property struct {
	key  string
	came int
	desc api.Desc
}

// table has properties, in the order in which they came.
// One that has got more than MaxFast of them also knows by a map when each one came: by that its place is found, and a drop changes nothing for the others.
type table struct {
	list []property
	came map[string]int
	next int
}

func (t *table) size() int { return len(t.list) }

func (t *table) has(n int) bool { return n >= 0 && n < len(t.list) }

// find is the place of a key.
func (t *table) find(key string) (int, bool) {
	if t.came != nil {
		came, ok := t.came[key]
		if !ok {
			return 0, false
		}
		return slices.BinarySearchFunc(t.list, came, byCame)
	}
	for n := range t.list {
		if t.list[n].key == key {
			return n, true
		}
	}
	return 0, false
}

func byCame(p property, came int) int { return cmp.Compare(p.came, came) }

// add lays a property behind the others; the key is none of theirs.
func (t *table) add(key string, d api.Desc) {
	t.list = append(t.list, property{key: key, came: t.next, desc: d})
	if t.came != nil {
		t.came[key] = t.next
	} else if len(t.list) > api.MaxFast {
		t.note()
	}
	t.next++
}

// note begins the map.
func (t *table) note() {
	t.came = map[string]int{}
	for _, p := range t.list {
		t.came[p.key] = p.came
	}
}

// drop takes away the property in a place that there is.
func (t *table) drop(n int) {
	delete(t.came, t.list[n].key)
	t.list = slices.Delete(t.list, n, n+1)
}

func (t *table) keys() []string {
	keys := make([]string, len(t.list))
	for n := range t.list {
		keys[n] = t.list[n].key
	}
	return keys
}
