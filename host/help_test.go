package host_test

import (
	"slices"
	"strings"
	"testing"

	"brazier/api"
	"brazier/host"
)

// all is more than any program of the tests needs that ends within one run.
const all = api.MaxFuel

func load(text string) api.Act             { return api.Act{Kind: api.HostLoad, Text: text} }
func run(fuel int, quick bool) api.Act     { return api.Act{Kind: api.HostRun, Fuel: fuel, Quick: quick} }
func flush() api.Act                       { return api.Act{Kind: api.HostFlush} }
func read() api.Act                        { return api.Act{Kind: api.HostRead} }
func script(l ...api.Act) []api.Act        { return l }
func only(code api.Errno) api.Told         { return api.Told{Code: code} }
func did(count int) api.Told               { return api.Told{Count: count} }
func stands(count, end int) api.Told       { return api.Told{Count: count, End: end} }
func refused(at int, c api.Errno) api.Told { return api.Told{Code: c, At: at} }

// machines are both, the one that learns and the other.
var machines = []bool{true, false}

// alike: two answers are the same.
func alike(a, b api.Told) bool {
	return a.Code == b.Code && a.At == b.At && a.Count == b.Count && a.End == b.End && slices.Equal(a.Log, b.Log) && a.Uncaught == b.Uncaught
}

// each does acts one by one.
func each(h *host.Host, l []api.Act) (told []api.Told) {
	for _, a := range l {
		told = append(told, h.Do(a))
	}
	return told
}

// tells: acts are answered so, at once and one by one.
func tells(t *testing.T, l []api.Act, want ...api.Told) {
	t.Helper()
	for name, got := range map[string][]api.Told{"Play": host.Play(l), "Do": each(host.New(), l)} {
		if !slices.EqualFunc(got, want, alike) {
			t.Errorf("%.3000v\n%s tells %+v\nand not %+v", l, name, got, want)
		}
	}
}

// does: a host answers an act so.
func does(t *testing.T, h *host.Host, a api.Act, want api.Told) {
	t.Helper()
	if got := h.Do(a); !alike(got, want) {
		t.Errorf("%.3000v is answered %+v and not %+v", a, got, want)
	}
}

// parted are lines, parted by |.
func parted(lines string) []string {
	if lines == "" {
		return nil
	}
	return strings.Split(lines, "|")
}

// begins: lines are the first of all.
func begins(lines, all []string) bool {
	return len(lines) <= len(all) && slices.Equal(lines, all[:len(lines)])
}

// chance tells the same numbers in each run.
type chance uint64

func (c *chance) next() uint64 {
	*c += 0x9e3779b97f4a7c15
	z := uint64(*c)
	z = (z ^ z>>30) * 0xbf58476d1ce4e5b9
	z = (z ^ z>>27) * 0x94d049bb133111eb
	return z ^ z>>31
}

func (c *chance) below(n int) int { return int(c.next() % uint64(n)) }

func of[T any](c *chance, l ...T) T { return l[c.below(len(l))] }
