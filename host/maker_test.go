package host_test

import (
	"fmt"
	"slices"
	"strconv"
	"strings"

	"brazier/api"
)

// maker makes programs by chance, and knows what they print: each piece is written along with its lines.
type maker struct {
	*chance
	text  strings.Builder
	lines []string
}

// makes is a program of some pieces, and how it ends.
func makes(c *chance) program {
	k := &maker{chance: c}
	pieces := []func(){k.sum, k.closures, k.generator, k.sent, k.accessors, k.caught, k.reversed, k.array, k.sorted, k.shapes, k.written, k.prototype, k.whole, k.recursion}
	for range 1 + k.below(6) {
		pieces[k.below(len(pieces))]()
	}
	end, left := k.ending()
	return program{text: k.text.String(), lines: strings.Join(k.lines, "|"), end: end, left: left}
}

// write lays a block behind, in which @ are the numbers, one behind the other.
func (k *maker) write(text string, numbers ...any) {
	for _, n := range numbers {
		text = strings.Replace(text, "@", fmt.Sprint(n), 1)
	}
	k.text.WriteString("{ " + text + " }\n")
}

// prints is a line.
func (k *maker) prints(l ...any) {
	k.lines = append(k.lines, strings.TrimSuffix(fmt.Sprintln(l...), "\n"))
}

// numbers are some, and how they are written in an array.
func (k *maker) numbers(most int) (l []int, text string) {
	for range k.below(most + 1) {
		l = append(l, k.below(200)-100)
	}
	return l, strings.Join(strings.Fields(strings.Trim(fmt.Sprint(l), "[]")), ", ")
}

// ending is how a program ends: it comes to its end, or throws, or wants too much room.
func (k *maker) ending() (int, string) {
	n := k.below(1000)
	switch k.below(6) {
	case 0:
		k.write(`throw @;`, n)
		return api.EndThrown, strconv.Itoa(n)
	case 1:
		k.write(`function f(n) { try { throw new RangeError("n" + n); } finally { print("over", n); } } f(@); print("never");`, n)
		k.prints("over", n)
		return api.EndThrown, fmt.Sprint("RangeError: n", n)
	case 2:
		k.write(`let big = "abc"; while (true) { big += big; print(big.length); }`)
		for far := 6; far <= api.MaxText; far *= 2 {
			k.prints(far)
		}
		return api.EndMemory, ""
	}
	return api.EndDone, ""
}

func (k *maker) sum() {
	n, by, s := k.below(60), k.below(9)-4, 0
	k.write(`let s = 0; let i; for (i = 0; i < @; i++) { if (i % 7 === 3) { continue; } s += i * @; if (i % 10 === 0) { print("sum", i, s); } } print(s);`, n, by)
	for i := range n {
		if i%7 == 3 {
			continue
		}
		if s += i * by; i%10 == 0 {
			k.prints("sum", i, s)
		}
	}
	k.prints(s)
}

func (k *maker) closures() {
	own, text := k.numbers(6)
	rounds, sum := 1+k.below(4), 0
	k.write(`let all = 0; let l = []; for (let x of [@]) { l.push(function (d) { x += d; all += x; return x; }); } let r = 0; while (r < @) { let s = ""; for (const f of l) { s += f(r) + ";"; } print("r" + s, all); r++; }`, text, rounds)
	for r := range rounds {
		s := "r"
		for n := range own {
			own[n] += r
			sum += own[n]
			s += fmt.Sprint(own[n], ";")
		}
		k.prints(s, sum)
	}
}

func (k *maker) generator() {
	n, most := k.below(20), k.below(20)
	k.write(`function* g(n) { let i = 0; try { while (i < n) { yield i * i; i++; } print("all", i); } finally { print("left", i); } } let n = 0; for (const x of g(@)) { if (n === @) { break; } print(x); n++; }`, n, most)
	for i := range min(n, most) {
		k.prints(i * i)
	}
	if n <= most { // else it waits for ever: it is not told that the loop was left
		k.prints("all", n)
		k.prints("left", n)
	}
}

func (k *maker) sent() {
	l, text := k.numbers(9)
	k.write(`function* g() { let s = 0; while (true) { const x = yield s; s += x; } } let i = g(); i.next(); for (const x of [@]) { print("sent", i.next(x).value); } let r = i.return("end"); print(r.value, r.done, i.next(1).value);`, text)
	s := 0
	for _, x := range l {
		s += x
		k.prints("sent", s)
	}
	k.prints("end true undefined")
}

func (k *maker) accessors() {
	l, text := k.numbers(9)
	k.write(`let o = {n: 0, asked: 0, get twice() { this.asked++; return this.n * 2; }, set twice(v) { this.n = v + 1; print("set", v); }}; for (const x of [@]) { o.twice = x; o.twice += 3; print(o.twice, o.n, o.asked); }`, text)
	for n, x := range l {
		k.prints("set", x)
		k.prints("set", 2*(x+1)+3)
		k.prints(2*(2*(x+1)+4), 2*(x+1)+4, 2*n+2)
	}
}

func (k *maker) caught() {
	n, by := k.below(30), 2+k.below(4)
	k.write(`let over = 0; function risky(n) { if (n % @ === 1) { throw new TypeError("n" + n); } return n; } let i = 0; while (i < @) { try { print(risky(i)); } catch (e) { print(e, e instanceof TypeError); } finally { over++; } i++; } print(over);`, by, n)
	for i := range n {
		if i%by == 1 {
			k.prints(fmt.Sprint("TypeError: n", i), true)
		} else {
			k.prints(i)
		}
	}
	k.prints(n)
}

func (k *maker) reversed() {
	word := of(k.chance, "", "a", "brazier", "hot coals", "0123456789")
	n := k.below(5)
	k.write(`let s = "@"; let out = "<"; for (const c of s) { out = c + out; } let n = 0; while (n < @) { out += n; n++; } print(out, out.length, s.slice(1, -1) + "|".slice(1), s.indexOf("a"), s < "b");`, word, n)
	out := "<"
	for n := range len(word) {
		out = word[n:n+1] + out
	}
	for i := range n {
		out += strconv.Itoa(i)
	}
	inner := ""
	if len(word) > 2 {
		inner = word[1 : len(word)-1]
	}
	k.prints(out, len(out), inner, strings.Index(word, "a"), word < "b")
}

func (k *maker) array() {
	l, text := k.numbers(12)
	far := k.below(20)
	k.write(`let a = [@]; a[@] = "far"; let holes = 0; let s = 0; let i = 0; while (i < a.length) { if (i in a) { if (typeof a[i] === "number") { s += a[i]; } } else { holes++; } i++; } print(a.length, holes, s); while (a.length > 3) { print(a.pop()); } print(a.push(1, 2), a.length);`, text, far)
	a := make([]string, max(len(l), far+1))
	for n := range a {
		a[n] = "undefined"
	}
	s := 0
	for n, x := range l {
		if a[n] = strconv.Itoa(x); n != far {
			s += x
		}
	}
	a[far] = "far"
	k.prints(len(a), max(0, far-len(l)), s)
	for len(a) > 3 {
		k.prints(a[len(a)-1])
		a = a[:len(a)-1]
	}
	k.prints(len(a)+2, len(a)+2)
}

func (k *maker) sorted() {
	l, text := k.numbers(9)
	k.write(`function sort(a) { let i; let j; for (i = 0; i < a.length; i++) { for (j = 0; j + 1 < a.length - i; j++) { if (a[j] > a[j + 1]) { let t = a[j]; a[j] = a[j + 1]; a[j + 1] = t; } } } return a; } for (const x of sort([@])) { print(x); }`, text)
	slices.Sort(l)
	for _, x := range l {
		k.prints(x)
	}
}

// shapes: one place of the code meets objects that are laid out in as many ways.
func (k *maker) shapes() {
	many, rounds := 1+k.below(7), 1+k.below(12)
	k.write(`let l = []; let i = 0; while (i < @) { let o = {}; let j = 0; while (j < i) { o["k" + j] = j; j++; } o.v = i; l.push(o); i++; } let r = 0; while (r < @) { let s = 0; for (const o of l) { s += o.v; o.v += r; } print("v", s); r++; }`, many, rounds)
	v := make([]int, many)
	for n := range v {
		v[n] = n
	}
	for r := range rounds {
		s := 0
		for n := range v {
			s += v[n]
			v[n] += r
		}
		k.prints("v", s)
	}
}

// written: a property that can be written, until it can't.
func (k *maker) written() {
	n, shut := k.below(12), k.below(12)
	k.write(`let o = {x: 0, seen: 0}; let i = 0; while (i < @) { if (i === @) { Object.defineProperty(o, "x", {writable: false}); } try { o.x = i; } catch (e) { print(e); } o.seen += o.x; print(o.x, o.seen); i++; }`, n, shut)
	x, seen := 0, 0
	for i := range n {
		if i < shut {
			x = i
		} else {
			k.prints("TypeError: write x")
		}
		seen += x
		k.prints(x, seen)
	}
}

// prototype: what is found above an object is another thing, from some round on.
func (k *maker) prototype() {
	n, own, above := k.below(14), k.below(14), k.below(14)
	k.write(`let far = {x: "far"}; let near = Object.create(far); let o = Object.create(near); let i = 0; while (i < @) { if (i === @) { o.x = "own"; } if (i === @) { near.x = "near"; } if (i === 11) { delete far.x; } print(i, o.x); i++; }`, n, own, above)
	for i := range n {
		x := "far"
		switch {
		case i >= own:
			x = "own"
		case i >= above:
			x = "near"
		case i >= 11:
			x = "undefined"
		}
		k.prints(i, x)
	}
}

// whole: numbers that grow out of 32 bits.
func (k *maker) whole() {
	n, by := 1+k.below(14), 1+k.below(9)
	k.write(`let n = 2147483600; let i = 0; while (i < @) { n += @ * 7; print(n, n | 0, n / 2); i++; }`, n, by)
	x := 2147483600
	for range n {
		x += by * 7
		half := strconv.Itoa(x / 2)
		if x%2 == 1 {
			half += ".5"
		}
		k.prints(x, int32(x), half)
	}
}

func (k *maker) recursion() {
	n := k.below(11)
	k.write(`function fib(n) { if (n < 2) { return n; } return fib(n - 1) + fib(n - 2); } function deep(n) { try { if (n === 0) { throw fib(@); } return deep(n - 1); } finally { print("out", n); } } try { deep(3); } catch (e) { print(e); }`, n)
	a, b := 0, 1
	for range n {
		a, b = b, a+b
	}
	for out := range 4 {
		k.prints("out", out)
	}
	k.prints(a)
}
