package soft_test

import (
	"math"
	"math/big"
	"testing"

	"brazier/soft"
)

// P1.1, products and quotients.

func TestMulNamed(t *testing.T) {
	table(t, "Mul", soft.Mul, []of2{
		{one, neg0, neg0}, {neg0, neg0, 0}, {0, 0, 0}, {0, most | neg0, neg0},
		{0, inf, nan}, {inf, 0, nan}, {neg0, inf, nan}, {ninf, neg0, nan},
		{ninf, two, ninf}, {ninf, ninf, inf}, {least | neg0, inf, ninf}, {inf, inf, inf},
		{two, two, 0x4010000000000000}, {0x4008000000000000, 0xc008000000000000, of(-9)},
		{most, two, inf}, {most, beyond, inf}, {most, one, most}, {most | neg0, two, ninf}, {most, below, most - 1},
		{least, half, 0}, {3, half, 2}, {5, half, 2}, {7, half, 4}, {least, 0x3fe8000000000000, 1}, {least | neg0, 0x3fe8000000000000, least | neg0},
		{least, least, 0}, {least | neg0, least, neg0}, {least | neg0, half, neg0},
		{normal, half, 0x0008000000000000}, {normal + 1, half, 0x0008000000000000}, {normal, below, normal},
	})
}

func TestDivNamed(t *testing.T) {
	table(t, "Div", soft.Div, []of2{
		{one, neg0, ninf}, {one, 0, inf}, {most | neg0, 0, ninf}, {least | neg0, neg0, inf}, {inf, neg0, ninf},
		{0, 0, nan}, {neg0, 0, nan}, {0, neg0, nan}, {inf, inf, nan}, {ninf, inf, nan},
		{one, inf, 0}, {most, ninf, neg0}, {0, inf, 0}, {neg0, inf, neg0}, {inf, two, inf}, {inf, most | neg0, ninf},
		{0, one, 0}, {0, one | neg0, neg0}, {neg0, most, neg0},
		{one, 0x4008000000000000, 0x3fd5555555555555}, {two, 0x4008000000000000, 0x3fe5555555555555},
		{least, two, 0}, {least | neg0, two, neg0}, {3, two, 2}, {least, most, 0}, {normal, two, 0x0008000000000000},
		{most, half, inf}, {most, below, inf}, {most, one, most}, {one, least, inf}, {normal, normal, one}, {least, least, one},
	})
}

func TestProductsOfNaN(t *testing.T) {
	oneNaN(t, "Mul", soft.Mul)
	oneNaN(t, "Div", soft.Div)
	oneNaN(t, "Rem", soft.Rem)
}

func TestProductsAgainstFloats(t *testing.T) {
	pairs(func(a, b uint64) {
		want(t, "Mul", soft.Mul(a, b), plain(float(a)*float(b)), a, b)
		want(t, "Div", soft.Div(a, b), plain(float(a)/float(b)), a, b)
	})
}

func TestProductsAreExactOnesRounded(t *testing.T) {
	for _, a := range edges() {
		for _, b := range edges() {
			if !finite(a) || !finite(b) || a<<1 == 0 || b<<1 == 0 {
				continue
			}
			want(t, "Mul", soft.Mul(a, b), rounded(new(big.Rat).Mul(exact(a), exact(b))), a, b)
			want(t, "Div", soft.Div(a, b), rounded(new(big.Rat).Quo(exact(a), exact(b))), a, b)
		}
	}
}

// P1.2

func TestRemNamed(t *testing.T) {
	table(t, "Rem", soft.Rem, []of2{
		{0x4016000000000000, 0xc000000000000000, 0x3ff8000000000000}, {0xc016000000000000, two, 0xbff8000000000000},
		{0xc010000000000000, two, neg0}, {0x4010000000000000, 0xc000000000000000, 0},
		{one, inf, one}, {one | neg0, ninf, one | neg0}, {0, inf, 0}, {neg0, ninf, neg0},
		{0, two, 0}, {neg0, two, neg0}, {neg0, least, neg0},
		{inf, one, nan}, {ninf, inf, nan}, {inf, 0, nan}, {one, 0, nan}, {one, neg0, nan}, {0, 0, nan},
		{5, 3, 2}, {most, 3, 2}, {most | neg0, 3, neg0 | 2}, {most, least, 0}, {most | neg0, least, neg0},
		{least, most, least}, {least | neg0, normal, least | neg0}, {below, one, below}, {one, below, 0x3ca0000000000000},
		{normal, normal - 1, least}, {0x0020000000000000, normal + 1, normal - 1}, {two, two, 0}, {two | neg0, two | neg0, neg0},
	})
}

func TestRemAgainstFloats(t *testing.T) {
	pairs(func(a, b uint64) {
		want(t, "Rem", soft.Rem(a, b), plain(math.Mod(float(a), float(b))), a, b)
	})
}

func TestRemIsExact(t *testing.T) {
	for _, a := range edges() {
		for _, b := range edges() {
			if !finite(a) || !finite(b) || b<<1 == 0 {
				continue
			}
			x, y := exact(a), exact(b)
			q := new(big.Rat).Quo(x, y)
			n := new(big.Rat).SetInt(new(big.Int).Quo(q.Num(), q.Denom()))
			left := x.Sub(x, n.Mul(n, y))
			r := soft.Rem(a, b)
			if r&neg0 != a&neg0 || !finite(r) || exact(r).Cmp(left) != 0 {
				t.Errorf("Rem of %x and %x: %x", a, b, r)
			}
		}
	}
}
