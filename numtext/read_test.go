package numtext_test

import (
	"math/big"
	"math/rand/v2"
	"regexp"
	"strconv"
	"strings"
	"testing"

	"brazier/numtext"
)

func TestReadNamed(t *testing.T) { // P2.2
	for s, want := range map[string]uint64{
		"": 0, " ": 0, "\t": 0, "\n": 0, " \t\n \n\t ": 0,
		" 12": of(12), "12 ": of(12), "\t\n 12\n\t ": of(12), ".5": of(0.5), "5.": of(5), "1e3": of(1000), "0x1F": of(31), "0X1f": of(31), "007": of(7),
		"+1": of(1), "-1": of(-1), "+.5": of(0.5), "-5.": of(-5), " -1.5e2\n": of(-150), "1E3": of(1000), "1e+3": of(1000), "1e-3": of(0.001), "1E-3": of(0.001), "1e0003": of(1000), "5.e1": of(50), ".5e1": of(5), "00.50": of(0.5),
		"0": 0, "+0": 0, "-0": neg0, "-0.0e5": neg0, "-.0": neg0, "0e999999999999999999999": 0, "-0e-999999999999999999999": neg0, "0x0": 0, "0x000": 0,
		"Infinity": inf, "+Infinity": inf, "-Infinity": ninf, " Infinity ": inf,
		"1e400": inf, "-1e400": ninf, "1e-400": 0, "-1e-400": neg0, "1e310": inf, "1e309": inf, "1e-330": 0, "1e-325": 0,
		"9007199254740993": of(1 << 53), "9007199254740993.0000000001": of(1<<53 + 2), "9007199254740995": of(1<<53 + 4), "9007199254740992.99999999": of(1 << 53),
		"1.7976931348623157e308": most, "1.7976931348623158e308": most, "1.7976931348623159e308": inf, "4.9e-324": least, "5e-324": least, "3e-324": least, "2.4e-324": 0, "2.5e-324": least, "7e-324": least, "8e-324": 2,
		"2.2250738585072014e-308": normal, "2.2250738585072011e-308": normal - 1, "2.2250738585072012e-308": normal,
		"0xfF": of(255), "0xABCDEFabcdef0123456789": rounded(new(big.Rat).SetInt(whole("ABCDEFabcdef0123456789"))), "0x10": of(16), "0x1e3": of(0x1e3),
	} {
		reads(t, s, want)
	}
}

func whole(hex string) *big.Int {
	n, _ := new(big.Int).SetString(hex, 16)
	return n
}

func TestReadNothing(t *testing.T) { // P2.2
	for _, s := range []string{
		"-", "+", ".", "e", "e5", ".e5", "-.", "+e1", "1e", "1e+", "1e-", "1E", "1e+-1", "1e1.5", "1e 1", "1.2.3", "1..2", "..1", "1_0", "1,0", "1 2", "- 1", "+ 1", "--1", "+-1", "-+1", "++1",
		"0x", "0X", "0xg", "0x1g", "0x-1", "0x+1", "0x 1", "0x1.8", "0x1p3", "0x_1", "-0x1", "+0x1", "x1", "00x1", "1x", "0b1", "0o7", "0x0x1", "0x.",
		"infinity", "INFINITY", "Inf", "inf", "+inf", "Infinit", "Infinityx", "Infinity1", "--Infinity", "- Infinity", "NaN", "nan", "-NaN", "1n", "1f", "1d", "true", "a", "é", "１", "\x00", "1\x00", "\xff",
		"\r1", "1\r", "\v1", "\f1", "\u00a01", "1\u00a0", "\u20281", "\ufeff1", "1\n2", "1e5x", "1e5 x", "0x1 x",
	} {
		reads(t, s, nan)
	}
}

func TestReadBlanks(t *testing.T) { // P2.2
	for c := range 256 {
		b := string([]byte{byte(c)})
		want := uint64(nan)
		switch {
		case c == 9 || c == 10 || c == 32:
			want = of(7)
		case c >= '0' && c <= '9':
			continue
		}
		if c != '+' && c != '-' && c != '.' {
			reads(t, b+"7", want)
		}
		if c != '.' {
			reads(t, "7"+b, want)
		}
		if c != '.' && c != 'e' && c != 'E' {
			reads(t, "7"+b+"7", nan)
		}
	}
}

var (
	decimalForm = regexp.MustCompile(`^[+-]?([0-9]+\.?[0-9]*|\.[0-9]+)([eE][+-]?[0-9]+)?$`)
	hexForm     = regexp.MustCompile(`^0[xX][0-9a-fA-F]+$`)
	literalForm = regexp.MustCompile(`^(0|[1-9][0-9]*)(\.[0-9]+)?([eE][+-]?[0-9]+)?$`)
	literalHex  = regexp.MustCompile(`^0x[0-9a-fA-F]+$`)
)

// meant is what a text is as a number, by the forms above.
func meant(s string) uint64 {
	s = strings.Trim(s, "\t\n ")
	switch {
	case s == "":
		return 0
	case hexForm.MatchString(s):
		return rounded(new(big.Rat).SetInt(whole(s[2:])))
	case decimalForm.MatchString(s):
		f, _ := strconv.ParseFloat(s, 64)
		return of(f)
	}
	return nan
}

func TestReadAllShortTexts(t *testing.T) { // P2.2
	texts("01.eE+-xXa ", 5, func(s string) { reads(t, s, meant(s)) })
}

// TestReadHalfway: what lies halfway between two numbers is read as the one whose last bit is 0; what lies ever so little beside it is not.
func TestReadHalfway(t *testing.T) { // P2.2
	for _, a := range []uint64{0, least, 2, 3, normal - 1, normal, normal + 1, of(0.1), of(1), of(1) + 1, of(1e23), of(1e-300), 0x3fefffffffffffff, most - 1, most, 0x7fe0000000000000, 0x0350000000000001} {
		middle := exact(a)
		if a == most {
			step := new(big.Rat).Sub(middle, exact(most-1))
			middle.Add(middle, step.Quo(step, big.NewRat(2, 1)))
		} else {
			middle.Add(middle, exact(a+1)).Quo(middle, big.NewRat(2, 1))
		}
		s := strings.TrimRight(middle.FloatString(1100), "0")
		whole, fraction, _ := strings.Cut(s, ".")
		even := a + a&1
		for _, tail := range []string{"", "0", strings.Repeat("0", 2000)} {
			reads(t, s+tail, even)
			reads(t, "-"+s+tail, even|neg0)
			reads(t, s+tail+"1", a+1)
			reads(t, "-"+s+tail+"1", a+1|neg0)
		}
		reads(t, "0."+strings.Repeat("0", 500)+whole+fraction+"e"+strconv.Itoa(500+len(whole)), even)
		reads(t, "0."+strings.Repeat("0", 500)+whole+fraction+"0001e"+strconv.Itoa(500+len(whole)), a+1)
		reads(t, whole+fraction+"e-"+strconv.Itoa(len(fraction)), even)
		less := new(big.Rat).Sub(middle, power(-1500))
		reads(t, less.FloatString(1500), a)
	}
}

func TestReadManyDigits(t *testing.T) { // P2.2
	many := 100000
	noughts := strings.Repeat("0", many)
	for s, want := range map[string]uint64{
		noughts: 0, "-" + noughts: neg0, noughts + "." + noughts: 0, noughts + "1": of(1), "1." + noughts: of(1), "1." + noughts + "1": of(1),
		"1" + noughts: inf, "-1" + noughts: ninf, "." + noughts + "1": 0, "-." + noughts + "1": neg0,
		"1" + noughts + "e-100000": of(1), "." + noughts + "1e100001": of(1), "." + noughts + "1e100310": inf, "." + noughts + "5e99677": least, "1" + noughts + "e-100324": 0, "5" + noughts + "e-100324": least,
		"1e" + noughts: of(1), "1e" + noughts + "3": of(1000), "1e-" + noughts + "3": of(0.001), "1e1" + noughts: inf, "1e-1" + noughts: 0, "1e+9" + noughts + "x": nan,
		"1e9223372036854775808": inf, "1e-9223372036854775808": 0, "1e18446744073709551617": inf, "1e-18446744073709551617": 0, "1e340282366920938463463374607431768211456": inf, "1e4294967296": inf, "1e-4294967297": 0, "1e2147483648": inf,
		"0x" + noughts: 0, "0x" + noughts + "1": of(1), "0x1" + noughts: inf, "0x1" + noughts + "g": nan,
		strings.Repeat("9", many) + "e-100000": of(1), "0." + strings.Repeat("9", many): of(1), "0." + strings.Repeat("3", many): of(1.0 / 3),
	} {
		reads(t, s, want)
	}
}

func TestReadAtRandom(t *testing.T) { // P2.2
	r := rand.New(rand.NewPCG(3, 4))
	digits := func(n int) string {
		b := make([]byte, n)
		for i := range b {
			b[i] = byte('0' + r.IntN(10))
		}
		return string(b)
	}
	for range 40000 {
		whole, fraction := digits(r.IntN(30)), digits(1+r.IntN(30))
		s := whole + "." + fraction + "e" + strconv.Itoa(r.IntN(720)-370)
		reads(t, s, meant(s))
		reads(t, "-"+s, meant("-"+s))
		s = whole + fraction
		reads(t, s, meant(s))
	}
	for range 200 {
		s := digits(1+r.IntN(1500)) + "." + digits(r.IntN(1500)) + "e" + strconv.Itoa(-r.IntN(1500))
		reads(t, s, meant(s))
	}
}

func TestReadHexRounds(t *testing.T) { // P2.2
	for s, want := range map[string]uint64{
		"0x1fffffffffffff": of(1<<53 - 1), "0x20000000000000": of(1 << 53), "0x20000000000001": of(1 << 53), "0x20000000000002": of(1<<53 + 2), "0x20000000000003": of(1<<53 + 4),
		"0xffffffffffffffff": of(1 << 64), "0xfffffffffffffbff": 0x43efffffffffffff, "0xfffffffffffffc00": of(1 << 64),
		"0x200000000000010000": 0x4440000000000000, "0x200000000000010001": 0x4440000000000001, "0x2000000000000100000000000000001": 0x4780000000000001,
		"0x1000000000000080": 0x43b0000000000000, "0x10000000000000800": 0x43f0000000000000, "0x10000000000000801": 0x43f0000000000001, "0x1000000000000080000001": 0x4530000000000001,
		"0xfffffffffffff7" + strings.Repeat("f", 242):    most,
		"0xfffffffffffffb" + strings.Repeat("f", 242):    most,
		"0xfffffffffffffc" + strings.Repeat("0", 242):    inf,
		"0x000fffffffffffffc" + strings.Repeat("0", 242): inf,
	} {
		reads(t, s, want)
	}
	r := rand.New(rand.NewPCG(5, 6))
	for range 20000 {
		n := new(big.Int)
		for range 1 + r.IntN(4) {
			n.Lsh(n, 64).Or(n, new(big.Int).SetUint64(r.Uint64()))
			if r.IntN(2) == 0 {
				n.Rsh(n, uint(r.IntN(60))).Lsh(n, uint(r.IntN(60)))
			}
		}
		if got, _ := numtext.Literal("0x" + n.Text(16)); got != rounded(new(big.Rat).SetInt(n)) {
			t.Errorf("Literal(0x%s): %016x", n.Text(16), got)
		}
		reads(t, "0X"+strings.ToUpper(n.Text(16)), rounded(new(big.Rat).SetInt(n)))
	}
}
