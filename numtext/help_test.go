package numtext_test

import (
	"math"
	"math/big"
	"math/rand/v2"
	"testing"

	"brazier/numtext"
)

const (
	neg0   = 1 << 63
	inf    = 0x7ff0000000000000
	ninf   = 0xfff0000000000000
	nan    = 0x7ff8000000000000
	most   = 0x7fefffffffffffff // the greatest finite one
	least  = 1                  // the smallest above 0
	normal = 0x0010000000000000 // the smallest normal one
)

func of(f float64) uint64 { return math.Float64bits(f) }

func float(a uint64) float64 { return math.Float64frombits(a) }

// exact is a finite number's value.
func exact(a uint64) *big.Rat { return new(big.Rat).SetFloat64(float(a)) }

// rounded is the number that is nearest to a value.
func rounded(v *big.Rat) uint64 {
	f, _ := v.Float64()
	return of(f)
}

// power is 10^n.
func power(n int) *big.Rat {
	p := new(big.Rat).SetInt(new(big.Int).Exp(big.NewInt(10), big.NewInt(int64(max(n, -n))), nil))
	if n < 0 {
		return p.Inv(p)
	}
	return p
}

// finite calls f with numbers above 0: those at which something changes, and many others.
func finite(f func(a uint64)) {
	for e := range uint64(2047) {
		for _, m := range []uint64{0, 1, 2, 1<<51 - 1, 1 << 51, 1<<52 - 2, 1<<52 - 1} {
			if a := e<<52 | m; a != 0 {
				f(a)
			}
		}
	}
	for n := -330; n <= 310; n++ {
		a := rounded(power(n))
		for d := range uint64(3) {
			if b := a + d - 1; b != 0 && b < inf {
				f(b)
			}
		}
	}
	r := rand.New(rand.NewPCG(1, 2))
	for range 5000 {
		f(1 + r.Uint64N(inf-1))
		f(1 + r.Uint64N(1<<53))
		f(of(float64(1+r.Int64N(1<<53)) / float64(int64(1)<<r.IntN(60))))
		f(of(float64(1+r.IntN(1000000)) / 1000))
		f(of(float64(1+r.IntN(1000)) * math.Pow(10, float64(r.IntN(40)-20))))
	}
}

func reads(t *testing.T, s string, want uint64) {
	t.Helper()
	if got := numtext.Read(s); got != want {
		t.Errorf("Read(%.60q): %016x (%v), want %016x (%v)", s, got, float(got), want, float(want))
	}
}

func prints(t *testing.T, a uint64, want string) {
	t.Helper()
	if got := numtext.Print(a); got != want {
		t.Errorf("Print(%016x): %q, want %q", a, got, want)
	}
}

func literal(t *testing.T, s string, want uint64, is bool) {
	t.Helper()
	if got, ok := numtext.Literal(s); got != want || ok != is {
		t.Errorf("Literal(%.60q): %016x, %v, want %016x, %v", s, got, ok, want, is)
	}
}

// texts calls f with each text of at most so many bytes of the letters.
func texts(letters string, length int, f func(s string)) {
	var from func(s string)
	from = func(s string) {
		f(s)
		if len(s) == length {
			return
		}
		for i := range len(letters) {
			from(s + letters[i:i+1])
		}
	}
	from("")
}
