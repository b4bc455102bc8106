package numtext

import "math/bits"

// tenPower is the greatest power of ten in a word, 10^tenCount.
const (
	tenPower = 10_000_000_000_000_000_000
	tenCount = 19
)

// natural is a whole number of any size, its lowest word first, its last word not 0.
// What is worked out of one is written into its own words: the one before is used no more.
type natural []uint64

func (n natural) trimmed() natural {
	for len(n) > 0 && n[len(n)-1] == 0 {
		n = n[:len(n)-1]
	}
	return n
}

// scaled is n times by, and plus.
func (n natural) scaled(by, plus uint64) natural {
	for i := range n {
		high, low := bits.Mul64(n[i], by)
		sum, carry := bits.Add64(low, plus, 0)
		n[i], plus = sum, high+carry
	}
	return append(n, plus).trimmed()
}

// tens is n times 10^count.
func (n natural) tens(count int) natural {
	for range count / tenCount {
		n = n.scaled(tenPower, 0)
	}
	for range count % tenCount {
		n = n.scaled(10, 0)
	}
	return n
}

// shifted is n times 2^count.
func (n natural) shifted(count int) natural {
	n = n.scaled(1<<(count%64), 0)
	return append(make(natural, count/64), n...).trimmed()
}

// plus is n and m, in new words.
func (n natural) plus(m natural) natural {
	if len(n) < len(m) {
		n, m = m, n
	}
	sum := make(natural, len(n)+1)
	carry := uint64(0)
	for i := range n {
		other := uint64(0)
		if i < len(m) {
			other = m[i]
		}
		sum[i], carry = bits.Add64(n[i], other, carry)
	}
	sum[len(n)] = carry
	return sum.trimmed()
}

// minus is n less m, which must not be above n.
func (n natural) minus(m natural) natural {
	borrow := uint64(0)
	for i := range n {
		other := uint64(0)
		if i < len(m) {
			other = m[i]
		}
		n[i], borrow = bits.Sub64(n[i], other, borrow)
	}
	return n.trimmed()
}

// compare is below 0, 0 or above 0, as n is to m.
func (n natural) compare(m natural) int {
	if len(n) != len(m) {
		return len(n) - len(m)
	}
	for i := len(n) - 1; i >= 0; i-- {
		switch {
		case n[i] < m[i]:
			return -1
		case n[i] > m[i]:
			return 1
		}
	}
	return 0
}

// size is how many bits n has.
func (n natural) size() int {
	if len(n) == 0 {
		return 0
	}
	return 64*len(n) - bits.LeadingZeros64(n[len(n)-1])
}
