package numtext

import (
	"strconv"
	"strings"
)

const (
	fractionBits = 52
	lowest       = -1074 // the last bit of the smallest numbers is 2^lowest

	mostPlain  = 21 // the highest point of a text without an exponent
	leastPlain = -5 // the lowest one

	logOfTwo = 78913 // the logarithm of 2, base ten, times 2^logBits
	logBits  = 18
)

// interval is a number above 0, and how far from it what is still read as that number may lie: all four as so many parts of a whole.
type interval struct {
	value, below, above, whole natural
	closed                     bool // what lies at its very bounds is read so as well
}

func around(a uint64) interval {
	man, exp := a&(1<<fractionBits-1), lowest
	below := uint64(2)
	if e := int(a >> fractionBits); e > 0 {
		// The numbers below a power of two lie half as far from each other as those above it.
		if man == 0 && e > 1 {
			below = 1
		}
		man |= 1 << fractionBits
		exp += e - 1
	}
	up, down := max(exp, 0), max(-exp, 0)
	return interval{
		value:  natural{4 * man}.shifted(up),
		below:  natural{below}.shifted(up),
		above:  natural{2}.shifted(up),
		whole:  natural{4}.shifted(down),
		closed: man%2 == 0,
	}
}

// times makes value and both distances greater by a power of ten.
func (v *interval) times(count int) {
	v.value, v.below, v.above = v.value.tens(count), v.below.tens(count), v.above.tens(count)
}

// within tells whether an order of two distances lets what lies between them into the interval.
func (v *interval) within(order int) bool {
	return order < 0 || order == 0 && v.closed
}

// canEnd tells whether nothing more, and whether one more of the last digit, is read as the number.
func (v *interval) canEnd() (down, up bool) {
	down = v.within(v.value.compare(v.below))
	up = v.within(v.whole.compare(v.value.plus(v.above)))
	return down, up
}

// scale divides by the power of ten by which all the interval is below 1, and tells it: it is the point.
func (v *interval) scale(guess int) int {
	v.whole = v.whole.tens(max(guess, 0))
	v.times(max(-guess, 0))
	for _, up := v.canEnd(); up; _, up = v.canEnd() {
		v.whole = v.whole.tens(1)
		guess++
	}
	return guess
}

// next takes the digit ahead of the point away.
func (v *interval) next() byte {
	digit := byte('0')
	for v.value.compare(v.whole) >= 0 {
		v.value = v.value.minus(v.whole)
		digit++
	}
	return digit
}

// roundsUp tells whether one more of the last digit is nearer to the number; of two that are as near, the even one is taken.
func (v *interval) roundsUp(digit byte) bool {
	order := v.value.plus(v.value).compare(v.whole)
	return order > 0 || order == 0 && digit%2 == 1
}

// shortest is a number's digits and its point; a must be above 0 and finite.
func shortest(a uint64) (string, int) {
	v := around(a)
	point := v.scale(lowPoint(v.value.size() - v.whole.size()))
	text := strings.Builder{}
	put := func(digit byte) { text.WriteByte(digit) }
	for {
		v.times(1)
		digit := v.next()
		down, up := v.canEnd()
		switch {
		case !down && !up:
			put(digit)
			continue
		case !down || up && v.roundsUp(digit):
			digit++
		}
		put(digit)
		return text.String(), point
	}
}

// lowPoint is a point that is not above that of a number which has at least exp bits ahead of its binary point, and near to it.
func lowPoint(exp int) int {
	return (exp - 1) * logOfTwo >> logBits
}

// layout writes digits with their point.
func layout(digits string, point int) string {
	text := strings.Builder{}
	put := func(s string) { text.WriteString(s) }
	noughts := func(count int) {
		for range count {
			put("0")
		}
	}
	switch count := len(digits); {
	case point > mostPlain || point < leastPlain:
		put(digits[:1])
		if count > 1 {
			put("." + digits[1:])
		}
		put(exponent(point - 1))
	case point <= 0:
		put("0.")
		noughts(-point)
		put(digits)
	case point < count:
		put(digits[:point] + "." + digits[point:])
	default:
		put(digits)
		noughts(point - count)
	}
	return text.String()
}

func exponent(n int) string {
	if n < 0 {
		return "e" + strconv.Itoa(n)
	}
	return "e+" + strconv.Itoa(n)
}
