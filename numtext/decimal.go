package numtext

import (
	"strings"

	"brazier/soft"
)

const (
	// enough digits decide how a decimal is rounded, as what lies halfway between two numbers has fewer: of those behind them it counts alone whether one is not 0.
	enough = 800

	mostPoint  = 310  // a decimal of a higher point is infinite
	leastPoint = -330 // one of a lower point is 0

	// mostExponent is beyond what the digits of any text can make up for.
	mostExponent = 1 << 40
)

// decimal is one that was scanned.
type decimal struct {
	whole, fraction string // the digits ahead of the point, and behind it
	dotted          bool
	exponent        int
}

// scan reads a decimal that is all of s.
func scan(s string) (decimal, bool) {
	d := decimal{}
	d.whole, s = cutDigits(s)
	if d.dotted = strings.HasPrefix(s, "."); d.dotted {
		d.fraction, s = cutDigits(s[1:])
	}
	if d.whole == "" && d.fraction == "" {
		return decimal{}, false
	}
	if s == "" {
		return d, true
	}
	ok := false
	d.exponent, ok = scanExponent(s)
	return d, ok
}

func cutDigits(s string) (digits, rest string) {
	n := 0
	for n < len(s) && '0' <= s[n] && s[n] <= '9' {
		n++
	}
	return s[:n], s[n:]
}

func scanExponent(s string) (int, bool) {
	if s[0] != 'e' && s[0] != 'E' {
		return 0, false
	}
	s = s[1:]
	sign := 1
	switch {
	case strings.HasPrefix(s, "-"):
		sign, s = -1, s[1:]
	case strings.HasPrefix(s, "+"):
		s = s[1:]
	}
	digits, rest := cutDigits(s)
	if digits == "" || rest != "" {
		return 0, false
	}
	n := 0
	for i := range len(digits) {
		n = min(10*n+int(digits[i]-'0'), mostExponent)
	}
	return sign * n, true
}

// literal tells whether a program may have it so.
func (d decimal) literal() bool {
	switch {
	case d.whole == "" || d.dotted && d.fraction == "":
		return false
	case len(d.whole) > 1:
		return d.whole[0] != '0'
	}
	return true
}

// significant is the digits that count, the first of them not 0, and the point they are to be read with.
func (d decimal) significant() (string, int) {
	all := d.whole + d.fraction
	digits := strings.TrimLeft(all, "0")
	point := len(d.whole) - (len(all) - len(digits)) + d.exponent
	if len(digits) > enough {
		rest := strings.Trim(digits[enough:], "0")
		digits = digits[:enough]
		if rest != "" {
			digits += "1"
		}
	}
	return digits, point
}

// value is what one reads, rounded.
func (d decimal) value() uint64 {
	digits, point := d.significant()
	switch {
	case digits == "" || point < leastPoint:
		return 0
	case point > mostPoint:
		return infinite
	}
	n := natural{}
	for i := range len(digits) {
		n = n.scaled(10, uint64(digits[i]-'0'))
	}
	exp := point - len(digits)
	return quotient(n.tens(max(exp, 0)), natural{1}.tens(max(-exp, 0)))
}

// quotient is n divided by m, rounded; neither is 0.
func quotient(n, m natural) uint64 {
	exp := n.size() - m.size()
	n, m = n.shifted(max(-exp, 0)), m.shifted(max(exp, 0))
	exp++
	man := uint64(0)
	for man < 1<<63 {
		man <<= 1
		if n.compare(m) >= 0 {
			n = n.minus(m)
			man |= 1
		}
		n = n.scaled(2, 0)
		exp--
	}
	return soft.Near(man, exp, n.size() > 0)
}

// hexadecimal reads one that is all of s, and rounds it.
func hexadecimal(s string) (uint64, bool) {
	man, exp, more := uint64(0), 0, false
	for i := range len(s) {
		digit, ok := hexDigit(s[i])
		switch {
		case !ok:
			return 0, false
		case man < 1<<60:
			man = man<<4 | digit
		default:
			exp += 4
			more = more || digit != 0
		}
	}
	return soft.Near(man, exp, more), s != ""
}

func hexDigit(c byte) (uint64, bool) {
	switch {
	case '0' <= c && c <= '9':
		return uint64(c - '0'), true
	case 'a' <= c && c <= 'f':
		return uint64(c-'a') + 10, true
	case 'A' <= c && c <= 'F':
		return uint64(c-'A') + 10, true
	}
	return 0, false
}
