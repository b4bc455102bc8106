package soft_test

import (
	"testing"

	"brazier/soft"
)

// P1.3

func TestNeg(t *testing.T) {
	want(t, "Neg", soft.Neg(0), neg0, 0)
	want(t, "Neg", soft.Neg(neg0), 0, neg0)
	want(t, "Neg", soft.Neg(inf), ninf, inf)
	want(t, "Neg", soft.Neg(one), one|neg0, one)
	for _, n := range nans() {
		want(t, "Neg", soft.Neg(n), nan, n)
	}
	singles(func(a uint64) {
		if float(a) == float(a) {
			want(t, "Neg", soft.Neg(a), a^neg0, a)
		}
	})
}

func TestOrder(t *testing.T) {
	rising := []uint64{ninf, most | neg0, two | neg0, one | neg0, normal | neg0, (normal - 1) | neg0, least | neg0, 0, least, normal - 1, normal, below, one, beyond, most, inf}
	for i, a := range rising {
		for k, b := range rising {
			if soft.Less(a, b) != (i < k) || soft.Equal(a, b) != (i == k) {
				t.Errorf("%x and %x: %v %v", a, b, soft.Less(a, b), soft.Equal(a, b))
			}
		}
	}
	if soft.Less(neg0, 0) || soft.Less(0, neg0) || !soft.Equal(neg0, 0) || !soft.Equal(0, neg0) || !soft.Equal(neg0, neg0) {
		t.Error("0 and -0")
	}
}

func TestOrderOfNaN(t *testing.T) {
	for _, n := range nans() {
		for _, a := range edges() {
			if soft.Less(n, a) || soft.Less(a, n) || soft.Equal(n, a) || soft.Equal(a, n) {
				t.Errorf("%x and %x", n, a)
			}
		}
		if soft.Equal(n, n) || !soft.IsNaN(n) || soft.IsInf(n) {
			t.Errorf("%x", n)
		}
	}
}

func TestOrderAgainstFloats(t *testing.T) {
	pairs(func(a, b uint64) {
		if soft.Less(a, b) != (float(a) < float(b)) || soft.Equal(a, b) != (float(a) == float(b)) {
			t.Errorf("%x and %x: %v %v", a, b, soft.Less(a, b), soft.Equal(a, b))
		}
	})
}

func TestIsNaNIsInf(t *testing.T) {
	singles(func(a uint64) {
		if soft.IsNaN(a) != (float(a) != float(a)) {
			t.Errorf("IsNaN of %x", a)
		}
		if soft.IsInf(a) != (a == inf || a == ninf) {
			t.Errorf("IsInf of %x", a)
		}
	})
}
