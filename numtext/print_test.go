package numtext_test

import (
	"math"
	"math/big"
	"strconv"
	"strings"
	"testing"

	"brazier/numtext"
)

func TestPrintNamed(t *testing.T) { // P2.1
	for _, c := range []struct {
		a    uint64
		want string
	}{
		{0, "0"}, {neg0, "0"}, {inf, "Infinity"}, {ninf, "-Infinity"},
		{nan, "NaN"}, {nan | neg0, "NaN"}, {inf + 1, "NaN"}, {ninf + 1, "NaN"}, {1<<63 - 1, "NaN"}, {1<<64 - 1, "NaN"},
		{of(0.5), "0.5"}, {of(100), "100"}, {of(1e21), "1e+21"}, {of(1e22), "1e+22"}, {0x3fd3333333333334, "0.30000000000000004"},
		{least, "5e-324"}, {2, "1e-323"}, {of(1e-6), "0.000001"}, {of(1.5e-7), "1.5e-7"}, {0x44b52d02c7e14af6, "1e+23"}, {0x44b52d02c7e14af7, "1.0000000000000001e+23"},
		{most, "1.7976931348623157e+308"}, {most - 1, "1.7976931348623155e+308"}, {most | neg0, "-1.7976931348623157e+308"}, {least | neg0, "-5e-324"},
		{normal, "2.2250738585072014e-308"}, {normal - 1, "2.225073858507201e-308"}, {normal + 1, "2.225073858507202e-308"},
		{of(1), "1"}, {of(-1), "-1"}, {of(-1.5), "-1.5"}, {of(1.0 / 3), "0.3333333333333333"}, {of(2.0 / 3), "0.6666666666666666"},
		{of(1 << 53), "9007199254740992"}, {of(1<<53 - 1), "9007199254740991"}, {of(1<<53 + 2), "9007199254740994"}, {of(1 << 54), "18014398509481984"}, {of(1<<54 + 4), "18014398509481988"},
		{of(1 << 60), "1152921504606847000"}, {of(1 << 63), "9223372036854776000"}, {of(math.Pi), "3.141592653589793"}, {of(4294967295.5), "4294967295.5"},
	} {
		prints(t, c.a, c.want)
	}
}

func TestPrintAtTheTablesBounds(t *testing.T) { // P2.1
	for s, want := range map[string]string{
		"1e0": "1", "1e1": "10", "12e19": "120000000000000000000", "1e20": "100000000000000000000", "9e20": "900000000000000000000",
		"123456789012345680000": "123456789012345680000", "999999999999999900000": "999999999999999900000",
		"999999999999999868928": "999999999999999900000", "1.2e21": "1.2e+21", "123e19": "1.23e+21", "1.7e22": "1.7e+22",
		"1.5": "1.5", "12.5": "12.5", "1234567.8": "1234567.8", "1234567890123456.7": "1234567890123456.8", "123456789012345.6": "123456789012345.6",
		"0.1": "0.1", "0.12": "0.12", "0.99": "0.99", "0.01": "0.01", "0.001": "0.001", "0.00001": "0.00001", "0.000012": "0.000012",
		"0.000001": "0.000001", "0.0000012": "0.0000012", "0.0000099": "0.0000099", "0.00000123456789": "0.00000123456789",
		"0.0000001": "1e-7", "0.00000012": "1.2e-7", "0.00000099": "9.9e-7", "1e-9": "1e-9", "1e-10": "1e-10", "1.25e-10": "1.25e-10", "1e-100": "1e-100", "1e100": "1e+100", "1.25e100": "1.25e+100",
	} {
		f, err := strconv.ParseFloat(s, 64)
		if err != nil {
			t.Fatal(err)
		}
		prints(t, of(f), want)
		prints(t, of(-f), "-"+want)
	}
}

// Where two texts of the fewest digits are as near, the chapter names none: the even one is taken.
func TestPrintTies(t *testing.T) { // P2.1
	prints(t, of(1<<50+0.25), "1125899906842624.2")
	prints(t, of(1<<50+0.75), "1125899906842624.8")
	prints(t, of(1<<50+1.25), "1125899906842625.2")
	prints(t, of(1<<50+1.75), "1125899906842625.8")
}

// parted is what was printed as digits, without noughts at either end, and their point.
func parted(t *testing.T, s string) (digits string, point int) {
	man, exp, _ := strings.Cut(s, "e")
	whole, fraction, _ := strings.Cut(man, ".")
	if exp != "" {
		n, err := strconv.Atoi(exp)
		if err != nil {
			t.Fatalf("%q: %v", s, err)
		}
		point = n
	}
	point += len(whole)
	digits = strings.TrimLeft(whole+fraction, "0")
	point -= len(whole+fraction) - len(digits)
	return strings.TrimRight(digits, "0"), point
}

// written lays digits out by the chapter's table.
func written(digits string, n int) string {
	k := len(digits)
	switch {
	case k <= n && n <= 21:
		return digits + strings.Repeat("0", n-k)
	case 1 <= n && n <= 21:
		return digits[:n] + "." + digits[n:]
	case -5 <= n && n <= 0:
		return "0." + strings.Repeat("0", -n) + digits
	}
	exp := strconv.Itoa(n - 1)
	if n > 0 {
		exp = "+" + exp
	}
	if k == 1 {
		return digits + "e" + exp
	}
	return digits[:1] + "." + digits[1:] + "e" + exp
}

func TestPrintLayout(t *testing.T) { // P2.1
	finite(func(a uint64) {
		s := numtext.Print(a)
		if w := written(parted(t, s)); s != w {
			t.Errorf("Print(%016x): %q, want %q", a, s, w)
		}
		prints(t, a|neg0, "-"+s)
	})
}

// beside is the values of k digits next to v, at or below it and above it.
func beside(v *big.Rat, k, point int) (*big.Rat, *big.Rat) {
	unit := power(point - k)
	parts := new(big.Rat).Quo(v, unit)
	low := new(big.Rat).SetInt(new(big.Int).Quo(parts.Num(), parts.Denom()))
	high := new(big.Rat).Add(low, big.NewRat(1, 1))
	return low.Mul(low, unit), high.Mul(high, unit)
}

func TestPrintFewestAndNearest(t *testing.T) { // P2.1, P2.4
	finite(func(a uint64) {
		digits, point := parted(t, numtext.Print(a))
		k := len(digits)
		v := exact(a)
		value, _ := new(big.Rat).SetString(digits)
		value.Mul(value, power(point-k))
		if rounded(value) != a {
			t.Fatalf("Print(%016x): %s, %d is another", a, digits, point)
		}
		low, high := beside(v, k-1, point)
		if rounded(low) == a || rounded(high) == a {
			t.Fatalf("Print(%016x): %s: fewer digits are read as that number", a, digits)
		}
		far := distance(v, value)
		low, high = beside(v, k, point)
		for _, w := range []*big.Rat{low, high} {
			if rounded(w) == a && distance(v, w).Cmp(far) < 0 {
				t.Fatalf("Print(%016x): %s: %s is nearer", a, digits, w.FloatString(20))
			}
		}
	})
}

func distance(v, w *big.Rat) *big.Rat {
	d := new(big.Rat).Sub(v, w)
	return d.Abs(d)
}

func TestReadOfPrint(t *testing.T) { // P2.4
	finite(func(a uint64) {
		reads(t, numtext.Print(a), a)
		reads(t, numtext.Print(a|neg0), a|neg0)
	})
	reads(t, numtext.Print(0), 0)
	reads(t, numtext.Print(neg0), 0)
	reads(t, numtext.Print(inf), inf)
	reads(t, numtext.Print(ninf), ninf)
	reads(t, numtext.Print(nan), nan)
}
