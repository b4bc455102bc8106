package host_test

import (
	"slices"
	"strconv"
	"testing"

	"brazier/api"
	"brazier/host"
)

// long is a script in which all that can be told is told.
func long() []api.Act {
	return script(read(), load(counts), run(20, true), flush(), read(), run(all, false), read(), api.Act{Kind: 9}, load("x;"), flush(),
		load("print(1); throw new Error('left');"), run(7, true), read(), run(all, true), read(), read(), load("let x; x x"), read(), load(""), run(3, false), read())
}

// P20.2: what each act is answered stands at its place.
func TestPlay(t *testing.T) {
	n, k, none := length(t, counts), length(t, "print(1); throw new Error('left');"), length(t, "")
	left := api.Told{Count: k, End: api.EndThrown, Log: []string{"1"}, Uncaught: "Error: left"}
	some := host.Play(script(load(counts), run(20, false), read()))[2]
	printed := host.Play(script(load("print(1); throw new Error('left');"), run(7, false), read()))[2]
	tells(t, long(), only(api.ErrHostNone), only(api.OK), did(20), api.Told{}, some, did(n-20), api.Told{Count: n, End: api.EndDone, Log: []string{"0", "1", "2"}}, only(api.ErrArg), refused(0, api.ErrScopeName), only(api.ErrHostNone),
		only(api.OK), did(7), printed, did(k-7), left, left, refused(9, api.ErrParseForm), only(api.ErrHostNone), only(api.OK), did(min(3, none)), stands(min(3, none), api.EndDone))
	if some.Count != 20 || some.End != api.EndRunning || printed.Count != 7 {
		t.Error("stands", some, printed)
	}
}

// P20.2: a script of nothing is answered nothing; one of one act one.
func TestPlayFew(t *testing.T) {
	for _, l := range [][]api.Act{nil, {}, make([]api.Act, 0, 5)} {
		if told := host.Play(l); len(told) != 0 {
			t.Error("nothing is answered", told)
		}
	}
	tells(t, script(read()), only(api.ErrHostNone))
	tells(t, script(api.Act{}), only(api.ErrArg))
	tells(t, script(load(counts)), only(api.OK))
}

// P20.2: the host is a new one each time; R6: it tells the same each time.
func TestPlayAnew(t *testing.T) {
	host.Play(script(load(counts), run(5, true)))
	tells(t, script(run(5, true), read()), only(api.ErrHostNone), only(api.ErrHostNone))
	was := host.Play(long())
	for range 3 {
		if !slices.EqualFunc(host.Play(long()), was, alike) {
			t.Error("it tells something else")
		}
	}
}

// P20.2: a beginning of a script is answered as much of what the whole is.
func TestPlayBeginning(t *testing.T) {
	l := long()
	whole := host.Play(l)
	for n := range len(l) + 1 {
		if told := host.Play(l[:n]); !slices.EqualFunc(told, whole[:n], alike) {
			t.Error("of", n, "acts it tells", told)
		}
	}
}

// R4: the script stays as it was, and what stands behind it.
func TestPlayGiven(t *testing.T) {
	l := append(long(), read(), read())
	was := slices.Clone(l)
	host.Play(l[:len(l)-2])
	host.Play(l)
	if !slices.Equal(l, was) {
		t.Error("the script is", l)
	}
}

// spoil writes into all that was told, and behind it.
func spoil(told []api.Told) {
	for i := range told {
		for n := range told[i].Log {
			told[i].Log[n] = "mine"
		}
		_ = append(told[i].Log, "mine", "mine")
		told[i].Code, told[i].Count, told[i].Uncaught = 77, 77, "mine"
	}
	_ = append(told, api.Told{Code: 77})
}

// again are copies of what was told.
func again(told []api.Told) (l []api.Told) {
	for _, k := range told {
		k.Log = slices.Clone(k.Log)
		l = append(l, k)
	}
	return l
}

const lines = "let n = 0; while (n < 40) { print(n++); } throw n;"

// R5: what was told stays as it was, whatever the program does later; and whatever is done to it, the program and what is told later stay as they were.
func TestOwn(t *testing.T) {
	for _, dirty := range machines {
		h := host.New()
		h.Do(load(lines))
		var told, was []api.Told
		for n := range 300 {
			h.Do(run(5, n%2 == 0))
			one := h.Do(read())
			if dirty {
				other := []api.Told{h.Do(read())}
				spoil(other)
			}
			two := h.Do(read())
			if !alike(one, two) || len(one.Log) > 0 && &one.Log[0] == &two.Log[0] {
				t.Fatal("read twice it tells", one, two)
			}
			told = append(told, one)
			was = append(was, again([]api.Told{one})...)
		}
		h.Do(load("x;"))
		if !slices.EqualFunc(told, was, alike) {
			t.Error("what was told is another thing now")
		}
		end := told[len(told)-1]
		if end.End != api.EndThrown || end.Uncaught != "40" || len(end.Log) != 40 || end.Log[39] != "39" {
			t.Error("it ends", end)
		}
	}
}

// R5: no two lists that a script is answered share anything; what is laid behind one is seen in no other.
func TestPlayOwn(t *testing.T) {
	l := script(load(lines))
	for range 60 {
		l = append(l, run(13, true), read(), read())
	}
	was := host.Play(l)
	told := host.Play(l)
	for n := range told {
		spoil(told[n : n+1 : n+1])
		if !slices.EqualFunc(told[n+1:], was[n+1:], alike) {
			t.Fatal("what stands behind", n, "is another thing now")
		}
	}
	spoil(told)
	if !slices.EqualFunc(host.Play(l), was, alike) {
		t.Error("it tells something else now")
	}
}

// There is no room behind what is told, of whatever length.
func TestCut(t *testing.T) {
	l := script(load(lines))
	for n := range 70 {
		told := host.Play(append(slices.Clone(l), read()))
		if cap(told) != len(told) {
			t.Error("behind", len(told), "answers there is room for", cap(told))
		}
		if lines := told[n+1].Log; cap(lines) != len(lines) {
			t.Error("behind", len(lines), "lines there is room for", cap(lines))
		}
		l = append(l, run(11, n%2 == 0))
	}
	many := script(load("let n = 0; while (n < " + strconv.Itoa(api.MaxLog) + ") { print(n++); }"))
	told := host.Play(append(many, run(all, true), read()))
	if lines := told[2].Log; len(lines) != api.MaxLog || cap(lines) != len(lines) {
		t.Error("behind", len(lines), "lines there is room for", cap(lines))
	}
}
