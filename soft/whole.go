package soft

// far is an exponent at which Near is infinite, and at whose other sign it is 0, whatever man is.
const far = 2000

// FromInt is n, rounded.
func FromInt(n int64) uint64 {
	if n < 0 {
		return round(signBit, -uint64(n), 0)
	}
	return round(0, uint64(n), 0)
}

// FromUint is n, rounded.
func FromUint(n uint64) uint64 {
	return round(0, n, 0)
}

// ToInt32 is ToUint32, its highest bit as a sign.
func ToInt32(a uint64) int32 {
	return int32(ToUint32(a))
}

// ToUint32 is a without its fraction, modulo 2^32.
func ToUint32(a uint64) uint32 {
	p := split(a)
	if p.kind != kindFinite {
		return 0
	}
	n := uint32(p.size())
	if p.sign != 0 {
		return -n
	}
	return n
}

// size is a finite one's size without its fraction, modulo 2^64.
func (p parts) size() uint64 {
	if p.exp < 0 {
		return p.man >> -p.exp
	}
	return p.man << p.exp
}

// Whole is a as a whole number, if it is one below 2^53 in size, and not -0.
func Whole(a uint64) (int64, bool) {
	p := split(a)
	switch {
	case a == 0:
		return 0, true
	case p.kind != kindFinite || p.exp > 0 || Trunc(a) != a:
		return 0, false
	case p.sign != 0:
		return -int64(p.size()), true
	}
	return int64(p.size()), true
}

// Floor is the greatest whole number that is not above a.
func Floor(a uint64) uint64 {
	t := Trunc(a)
	if Less(a, t) {
		return Sub(t, one)
	}
	return t
}

// Trunc is a without its fraction.
func Trunc(a uint64) uint64 {
	p := split(a)
	switch {
	case p.kind == kindNaN:
		return notANumber
	case p.kind != kindFinite || p.exp >= 0:
		return a
	}
	return round(p.sign, p.size(), 0)
}

// Near rounds man, and a half, times a power of two.
func Near(man uint64, exp int, half bool) uint64 {
	exp = max(-far, min(exp, far))
	switch {
	case !half:
		return round(0, man, exp)
	case man >= 1<<63:
		return round(0, sticky(man, true), exp)
	}
	return round(0, man<<1|1, exp-1)
}
