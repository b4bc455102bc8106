package machine

import (
	"maps"
	"slices"
	"strconv"

	"brazier/api"
	"brazier/heap"
	"brazier/word"
)

// State is all of it, in lines. Texts are told by what they say: their numbers are nobody's state.
func (m *Machine) State() []string {
	if m == nil {
		return nil
	}
	lines := []string{
		string(m.line("end").number(m.end).number(m.count).quote(m.uncaught).bytes),
	}
	for _, c := range m.calls {
		lines = append(lines, m.callLine("call", c))
	}
	for _, g := range slices.Sorted(maps.Keys(m.waiting)) {
		lines = append(lines, m.callLine("waits", m.waiting[g]))
	}
	for n := range m.heap.Objects() {
		lines = append(lines, m.objectLine(word.Object(uint32(n))))
	}
	for _, s := range m.log {
		lines = append(lines, string(m.line("printed").quote(s).bytes))
	}
	return lines
}

// line is one that is being written: words with blanks ahead of them.
type line struct {
	heap  *heap.Heap
	bytes []byte
}

func (m *Machine) line(begin string) *line {
	return &line{m.heap, append(make([]byte, 0, 100), begin...)}
}

func (l *line) number(n int) *line {
	l.bytes = strconv.AppendInt(append(l.bytes, ' '), int64(n), 10)
	return l
}

func (l *line) quote(s string) *line {
	l.bytes = strconv.AppendQuote(append(l.bytes, ' '), s)
	return l
}

func (l *line) truth(b bool) *line {
	l.bytes = strconv.AppendBool(append(l.bytes, ' '), b)
	return l
}

func (l *line) word(w api.Word) *line {
	if s, ok := l.heap.TextOf(w); ok {
		return l.quote(s)
	}
	l.bytes = strconv.AppendUint(append(l.bytes, ' '), uint64(w), 16)
	return l
}

// words begins with how many there are: so they can't be taken for what stands behind them.
func (l *line) words(many []api.Word) *line {
	l.number(len(many))
	for _, w := range many {
		l.word(w)
	}
	return l
}

func (m *Machine) callLine(begin string, c *call) string {
	l := m.line(begin).number(c.number).number(c.pc).truth(c.begun)
	l.word(c.this).word(c.self).word(c.caught).word(c.generator)
	return string(l.words(c.regs).words(c.taken).bytes)
}

func (m *Machine) objectLine(o api.Word) string {
	kind, _ := m.heap.Kind(o)
	l := m.line("object").word(o).number(kind).word(m.heap.Proto(o)).truth(m.heap.Open(o))
	keys := m.heap.Keys(o)
	l.number(len(keys))
	for n, key := range keys {
		d, _ := m.heap.Slot(o, n)
		l.quote(key).number(d.Flags).word(d.Value).word(d.Set)
	}
	l.number(m.heap.Len(o))
	for n := range m.heap.Len(o) {
		w, ok := m.heap.Elem(o, n)
		if !ok {
			w = word.Hole
		}
		l.word(w)
	}
	return string(l.words(m.heap.Inner(o)).bytes)
}
