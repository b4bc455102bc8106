package soft_test

import (
	"math"
	"math/big"
	"testing"

	"brazier/soft"
)

// P1.4

func TestFromInt(t *testing.T) {
	for _, c := range []struct {
		n    int64
		want uint64
	}{
		{0, 0}, {1, one}, {-1, one | neg0}, {1<<53 - 1, two53 - 1}, {1<<53 + 1, two53}, {1<<53 + 2, two53 + 1}, {1<<53 + 3, two53 + 2}, {-1<<53 - 1, two53 | neg0},
		{math.MaxInt64, 0x43e0000000000000}, {math.MinInt64, 0xc3e0000000000000}, {math.MinInt64 + 1, 0xc3e0000000000000},
		{1<<62 + 1<<9, 0x43d0000000000000}, {1<<62 + 1<<9 + 1, 0x43d0000000000001},
	} {
		want(t, "FromInt", soft.FromInt(c.n), c.want, uint64(c.n))
	}
	for _, c := range []struct{ n, want uint64 }{
		{0, 0}, {1, one}, {1<<53 + 1, two53}, {1 << 63, 0x43e0000000000000}, {1<<64 - 1, 0x43f0000000000000},
		{1<<64 - 1<<10, 0x43f0000000000000}, {1<<64 - 1<<10 - 1, 0x43efffffffffffff}, {1<<63 + 1<<10, 0x43e0000000000000}, {1<<63 + 3<<10, 0x43e0000000000002},
	} {
		want(t, "FromUint", soft.FromUint(c.n), c.want, c.n)
	}
}

func TestFromIntAgainstFloats(t *testing.T) {
	c := chance(3)
	for range rounds {
		n := c.next() >> (c.next() % 64)
		want(t, "FromUint", soft.FromUint(n), rounded(new(big.Rat).SetUint64(n)), n)
		want(t, "FromInt", soft.FromInt(int64(n)), of(float64(int64(n))), n)
		want(t, "FromInt", soft.FromInt(-int64(n)), of(float64(-int64(n))), -n)
	}
}

func TestToInt32(t *testing.T) {
	for _, c := range []struct {
		a uint64
		n uint32
	}{
		{0, 0}, {neg0, 0}, {inf, 0}, {ninf, 0}, {nan, 0}, {inf + 1, 0}, {math.MaxUint64, 0},
		{of(1 << 31), 1 << 31}, {of(1<<31 - 1), 1<<31 - 1}, {of(1<<31 - 0.5), 1<<31 - 1}, {of(-1 << 31), 1 << 31}, {of(-1<<31 - 1), 1<<31 - 1},
		{of(-1), 1<<32 - 1}, {of(-0.9), 0}, {of(0.9), 0}, {of(-1.9), 1<<32 - 1}, {of(1<<32 + 5), 5}, {of(-1<<32 - 5), 1<<32 - 5}, {of(1<<32 - 1), 1<<32 - 1}, {of(1 << 32), 0},
		{two53 + 1, 2}, {most, 0}, {least, 0}, {least | neg0, 0}, {of(1<<52 + 1), 1}, {of(3 << 83), 0}, {of((1<<52 + 1) << 31), 1 << 31}, {of((1<<52 + 1) << 32), 0},
	} {
		if got := soft.ToUint32(c.a); got != c.n {
			t.Errorf("ToUint32 of %x: %d, want %d", c.a, got, c.n)
		}
		if got := soft.ToInt32(c.a); got != int32(c.n) {
			t.Errorf("ToInt32 of %x: %d, want %d", c.a, got, int32(c.n))
		}
	}
}

func TestToInt32IsExact(t *testing.T) {
	singles(func(a uint64) {
		n := uint64(0)
		if finite(a) {
			v := exact(a)
			whole := new(big.Int).Quo(v.Num(), v.Denom())
			n = whole.Mod(whole, big.NewInt(1<<32)).Uint64()
		}
		if soft.ToUint32(a) != uint32(n) || soft.ToInt32(a) != int32(uint32(n)) {
			t.Errorf("%x: %d %d, want %d", a, soft.ToUint32(a), soft.ToInt32(a), n)
		}
	})
}

// P1.5

func TestWholeNamed(t *testing.T) {
	for _, c := range []struct {
		a  uint64
		n  int64
		is bool
	}{
		{0, 0, true}, {neg0, 0, false}, {one, 1, true}, {of(-3), -3, true}, {of(1.5), 0, false}, {of(-0.5), 0, false}, {least, 0, false},
		{two53 - 1, 1<<53 - 1, true}, {two53 - 1 | neg0, -1<<53 + 1, true}, {two53, 0, false}, {two53 | neg0, 0, false}, {of(1 << 52), 1 << 52, true},
		{of(1<<52 - 0.5), 0, false}, {most, 0, false}, {inf, 0, false}, {ninf, 0, false}, {nan, 0, false}, {math.MaxUint64, 0, false}, {normal, 0, false},
	} {
		if n, is := soft.Whole(c.a); n != c.n || is != c.is {
			t.Errorf("Whole of %x: %d %v", c.a, n, is)
		}
	}
}

func TestWholeIsExact(t *testing.T) {
	singles(func(a uint64) {
		f := float(a)
		is := finite(a) && f == math.Trunc(f) && math.Abs(f) < 1<<53 && a != neg0
		wanted := int64(0)
		if is {
			wanted = int64(f)
		}
		if n, ok := soft.Whole(a); ok != is || n != wanted {
			t.Errorf("Whole of %x: %d %v", a, n, ok)
		}
	})
	c := chance(4)
	for range rounds {
		n := int64(c.next()) >> (11 + c.next()%53)
		if got, ok := soft.Whole(soft.FromInt(n)); !ok || got != n {
			t.Errorf("Whole of %d: %d %v", n, got, ok)
		}
	}
}

func TestFloorTruncNamed(t *testing.T) {
	for _, c := range []struct{ a, floor, trunc uint64 }{
		{of(-0.5), of(-1), neg0}, {of(2.5), two, two}, {of(-2.5), of(-3), of(-2)}, {of(0.5), 0, 0}, {0, 0, 0}, {neg0, neg0, neg0},
		{least, 0, 0}, {least | neg0, of(-1), neg0}, {below, 0, 0}, {below | neg0, of(-1), neg0}, {one | neg0, of(-1), of(-1)}, {beyond | neg0, of(-2), of(-1)},
		{of(1<<52 - 0.5), of(1<<52 - 1), of(1<<52 - 1)}, {of(-1<<52 + 0.5), of(-1 << 52), of(-1<<52 + 1)}, {two53 - 1, two53 - 1, two53 - 1},
		{most, most, most}, {most | neg0, most | neg0, most | neg0}, {inf, inf, inf}, {ninf, ninf, ninf},
	} {
		want(t, "Floor", soft.Floor(c.a), c.floor, c.a)
		want(t, "Trunc", soft.Trunc(c.a), c.trunc, c.a)
	}
	for _, n := range nans() {
		want(t, "Floor", soft.Floor(n), nan, n)
		want(t, "Trunc", soft.Trunc(n), nan, n)
	}
}

func TestFloorTruncAgainstFloats(t *testing.T) {
	singles(func(a uint64) {
		want(t, "Floor", soft.Floor(a), plain(math.Floor(float(a))), a)
		want(t, "Trunc", soft.Trunc(a), plain(math.Trunc(float(a))), a)
	})
}

// P1.6

func TestNearNamed(t *testing.T) {
	for _, c := range []struct {
		man  uint64
		exp  int
		half bool
		want uint64
	}{
		{1, 0, false, one}, {1, 0, true, of(1.5)}, {0, 0, true, half}, {0, 0, false, 0}, {0, 9999, false, 0}, {0, math.MaxInt, false, 0}, {0, math.MinInt, false, 0},
		{0, math.MaxInt, true, inf}, {0, math.MinInt, true, 0}, {1, math.MaxInt, false, inf}, {math.MaxUint64, math.MinInt, true, 0}, {math.MaxUint64, math.MinInt + 1, false, 0}, {1, math.MaxInt - 1, true, inf},
		{1, -1074, false, 1}, {1, -1075, false, 0}, {1, -1075, true, 1}, {3, -1075, false, 2}, {3, -1075, true, 2}, {5, -1075, false, 2}, {1, -1076, true, 0}, {0, -1073, true, 1}, {0, -1074, true, 0}, {1, -1074, true, 2}, {2, -1074, true, 2},
		{1 << 63, -1138, false, 0}, {1 << 63, -1138, true, 1}, {1<<63 + 1, -1138, false, 1}, {1<<63 - 1, -1138, true, 0}, {math.MaxUint64, -1138, true, 1}, {math.MaxUint64, -1139, true, 0},
		{1<<52 - 1, -1074, true, normal}, {1<<53 - 1, -1075, false, normal}, {1<<52 - 2, -1074, true, 1<<52 - 2},
		{1, 1023, false, 0x7fe0000000000000}, {1, 1024, false, inf}, {0, 1024, true, 0x7fe0000000000000}, {0, 1025, true, inf},
		{1<<54 + 1, 0, false, 0x4350000000000000}, {1<<54 + 2, 0, false, 0x4350000000000000}, {1<<54 + 2, 0, true, 0x4350000000000001}, {1<<53 + 1, 0, false, two53}, {1<<53 + 1, 0, true, two53 + 1}, {1 << 53, 0, true, two53}, {1<<52 + 1, 0, true, 0x4330000000000002}, {1 << 52, 0, true, 0x4330000000000000},
		{1<<63 + 1<<10, 0, false, 0x43e0000000000000}, {1<<63 + 1<<10, 0, true, 0x43e0000000000001}, {1<<63 + 3<<10, 0, false, 0x43e0000000000002}, {1<<63 + 1<<10 - 1, 0, true, 0x43e0000000000000},
		{1<<54 - 1, 970, false, inf}, {1<<54 - 2, 970, true, most}, {1<<54 - 2, 970, false, most}, {1<<53 - 1, 971, true, inf},
		{math.MaxUint64, 960, false, inf}, {1<<64 - 1<<10 - 1, 960, true, most}, {1<<64 - 1<<10, 960, false, inf}, {1 << 63, 960, true, 0x7fe0000000000000}, {1 << 63, 961, false, inf},
	} {
		want(t, "Near", soft.Near(c.man, c.exp, c.half), c.want, c.man, uint64(c.exp))
	}
}

// exactNear is what Near is given, as a value.
func exactNear(man uint64, exp int, half bool) *big.Rat {
	n := new(big.Int).SetUint64(man)
	n.Lsh(n, 1)
	if half {
		n.SetBit(n, 0, 1)
	}
	v := new(big.Rat).SetInt(n)
	power := new(big.Rat).SetInt(new(big.Int).Lsh(big.NewInt(1), uint(max(exp-1, 1-exp))))
	if exp < 1 {
		return v.Quo(v, power)
	}
	return v.Mul(v, power)
}

func TestNearIsTheExactOneRounded(t *testing.T) {
	c := chance(5)
	for i := range rounds {
		man := c.next() >> (c.next() % 65)
		switch i % 3 {
		case 1: // near a tie of 53 bits
			man = man>>11<<11 + 1<<10 + c.next()%3 - 1
		case 2: // few bits
			man &^= 1<<(c.next()%64) - 1
		}
		exp := int(c.next()%2600) - 1300
		if i%2 == 0 { // near the smallest ones
			exp = -1140 + int(c.next()%70)
		}
		h := c.next()%2 == 0
		want(t, "Near", soft.Near(man, exp, h), rounded(exactNear(man, exp, h)), man, uint64(exp))
	}
}

func TestNearOfAnyExponent(t *testing.T) {
	for _, man := range []uint64{0, 1, 2, 1 << 52, 1<<63 - 1, 1 << 63, math.MaxUint64} {
		for _, exp := range []int{1025, 2000, 2001, 1 << 31, 1 << 32, 1 << 52, math.MaxInt - 63, math.MaxInt - 1, math.MaxInt} {
			want(t, "Near", soft.Near(man, exp, true), inf, man, uint64(exp))
			if man > 0 {
				want(t, "Near", soft.Near(man, exp, false), inf, man, uint64(exp))
			}
		}
		for _, exp := range []int{-1140, -2000, -2001, -1 << 31, -1 << 32, -1 << 52, math.MinInt + 63, math.MinInt + 1, math.MinInt} {
			want(t, "Near", soft.Near(man, exp, true), 0, man, uint64(exp))
			want(t, "Near", soft.Near(man, exp, false), 0, man, uint64(exp))
		}
	}
}
