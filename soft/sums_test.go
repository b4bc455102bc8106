package soft_test

import (
	"math/big"
	"testing"

	"brazier/soft"
)

// P1.1, sums.

func TestAddNamed(t *testing.T) {
	table(t, "Add", soft.Add, []of2{
		{0x3fb999999999999a, 0x3fc999999999999a, 0x3fd3333333333334},
		{neg0, 0, 0}, {0, neg0, 0}, {0, 0, 0}, {neg0, neg0, neg0},
		{one, one | neg0, 0}, {one | neg0, one, 0}, {least, least | neg0, 0}, {most | neg0, most, 0},
		{0, one, one}, {neg0, least | neg0, least | neg0}, {most, neg0, most},
		{inf, ninf, nan}, {ninf, inf, nan}, {inf, inf, inf}, {ninf, ninf, ninf},
		{inf, most | neg0, inf}, {one, ninf, ninf}, {0, inf, inf}, {ninf, neg0, ninf},
		{least, 0x000fffffffffffff, normal}, {least, least, 2}, {0x000fffffffffffff, 0x000fffffffffffff, 0x001ffffffffffffe},
	})
}

func TestAddTies(t *testing.T) {
	table(t, "Add", soft.Add, []of2{
		{one, 0x3ca0000000000000, one}, {one, 0x3ca0000000000001, beyond}, {one, 0x3c9fffffffffffff, one},
		{beyond, 0x3ca0000000000000, 0x3ff0000000000002}, {beyond, 0x3c9fffffffffffff, beyond},
		{one, 0xbc90000000000000, one}, {one, 0xbc90000000000001, below}, {one, 0xbca0000000000000, below},
		{one, least, one}, {one, least | neg0, one}, {beyond, least | neg0, beyond},
		{0x4330000000000001, half, 0x4330000000000002}, {0x4330000000000000, half, 0x4330000000000000},
	})
}

func TestAddBound(t *testing.T) {
	table(t, "Add", soft.Add, []of2{
		{most, two970, inf}, {most, two970 - 1, most}, {most, two970 + 1, inf}, {most, least, most},
		{most | neg0, two970 | neg0, ninf}, {most | neg0, (two970 - 1) | neg0, most | neg0},
		{most, most, inf}, {most | neg0, most | neg0, ninf}, {0x7fe0000000000000, 0x7fe0000000000000, inf},
	})
}

func TestSubNamed(t *testing.T) {
	table(t, "Sub", soft.Sub, []of2{
		{one, one, 0}, {neg0, 0, neg0}, {0, 0, 0}, {0, neg0, 0}, {neg0, neg0, 0},
		{one, inf, ninf}, {inf, inf, nan}, {ninf, ninf, nan}, {inf, ninf, inf}, {ninf, one, ninf},
		{normal, least, 0x000fffffffffffff}, {0, least, least | neg0}, {most, two970 | neg0, inf},
		{two, below, one}, {two, 0x3feffffffffffffe, beyond}, {0x0020000000000000, 0x001fffffffffffff, least},
	})
}

func TestSumsOfNaN(t *testing.T) {
	oneNaN(t, "Add", soft.Add)
	oneNaN(t, "Sub", soft.Sub)
}

func TestSumsAgainstFloats(t *testing.T) {
	pairs(func(a, b uint64) {
		want(t, "Add", soft.Add(a, b), plain(float(a)+float(b)), a, b)
		want(t, "Sub", soft.Sub(a, b), plain(float(a)-float(b)), a, b)
	})
}

func TestSumsAreExactOnesRounded(t *testing.T) {
	for _, a := range edges() {
		for _, b := range edges() {
			if !finite(a) || !finite(b) {
				continue
			}
			v := new(big.Rat).Add(exact(a), exact(b))
			if v.Sign() != 0 {
				want(t, "Add", soft.Add(a, b), rounded(v), a, b)
			}
		}
	}
}

func TestSubIsAddOfTheOtherSign(t *testing.T) {
	pairs(func(a, b uint64) {
		want(t, "Sub", soft.Sub(a, b), soft.Add(a, b^neg0), a, b)
	})
}
