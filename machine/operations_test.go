package machine_test

import (
	"math"
	"testing"

	"brazier/api"
	"brazier/word"
)

// signs are the Ops of two, by their numbers from OpAdd on.
var signs = []string{"+", "-", "*", "/", "%", "<<", ">>", ">>>", "&", "|", "^", "<", "<=", ">", ">=", "==", "!=", "===", "!=="}

// meant is a model's value of a word.
func (b bench) meant(w api.Word) value {
	if x, ok := word.Bits(w); ok {
		return bits(x)
	}
	if s, ok := b.Heap().TextOf(w); ok {
		return s
	}
	switch w {
	case word.Undefined:
		return nil
	case word.Null:
		return null{}
	}
	return w == word.True
}

// worded is the word of a model's value.
func (b bench) worded(v value) api.Word {
	switch x := v.(type) {
	case bool:
		return word.Bool(x)
	case string:
		return b.text(x)
	}
	return word.Number(math.Float64bits(v.(float64)))
}

// P17.2: OpAdd to OpNotSame, of each two primitives.
func TestOfTwo(t *testing.T) {
	model := &model{fuel: plenty}
	for n, sign := range signs {
		for _, k := range primitives {
			for _, l := range primitives {
				b := benchOf(t, api.Instr{Op: api.OpAdd + n, B: 2, C: 3})
				x, y := k.w, l.w
				if k.typeOf == "string" {
					x = b.text(k.s)
				}
				if l.typeOf == "string" {
					y = b.text(l.s)
				}
				b.SetReg(2, x)
				b.SetReg(3, y)
				p, q := b.meant(x), b.meant(y)
				var want value
				switch sign {
				case "==", "!=":
					want = equal(p, q) == (sign == "==")
				case "===", "!==":
					want = (p == q) == (sign == "===")
				default:
					want = model.operate(sign, p, q)
				}
				b.does(k.text+" "+sign+" "+l.text, b.worded(want))
			}
		}
	}
}

// P17.2: OpEqual and OpSame of objects: whether they are one.
func TestSameObjects(t *testing.T) {
	for _, op := range []int{api.OpEqual, api.OpNotEqual, api.OpSame, api.OpNotSame} {
		same := word.Bool(op == api.OpEqual || op == api.OpSame)
		other := word.Bool(same == word.False)
		for _, second := range []int{-1, 0, 1, 2, 3, 4, 5} {
			b := benchOf(t, api.Instr{Op: op, B: 2, C: 3})
			o, p := b.object(api.KindPlain), b.object(api.KindPlain)
			want := other
			w := o
			switch second {
			case -1:
				want = same
			case 0:
				w = p
			default:
				w = []api.Word{word.Undefined, word.Null, word.True, b.text("[object Object]"), word.Int(0)}[second-1]
			}
			b.SetReg(2, o)
			b.SetReg(3, w)
			b.does("objects", want)
		}
	}
}

// P17.2: what can be done with two objects, where OpPrim was left out: they stand for undefined.
func TestOperationsOfObjects(t *testing.T) {
	for n := range signs[:15] {
		b := benchOf(t, api.Instr{Op: api.OpAdd + n, B: 2, C: 3})
		b.SetReg(2, b.object(api.KindPlain))
		b.SetReg(3, b.object(api.KindPlain))
		model := &model{fuel: plenty}
		b.does(signs[n], b.worded(model.operate(signs[n], nil, nil)))
	}
}
