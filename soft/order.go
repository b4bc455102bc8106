package soft

// Less tells whether a is below b.
func Less(a, b uint64) bool {
	return !IsNaN(a) && !IsNaN(b) && rank(a) < rank(b)
}

// Equal tells whether they are the same number.
func Equal(a, b uint64) bool {
	return !IsNaN(a) && !IsNaN(b) && rank(a) == rank(b)
}

// IsNaN tells whether it is no number.
func IsNaN(a uint64) bool {
	return split(a).kind == kindNaN
}

// IsInf tells whether it is infinite.
func IsInf(a uint64) bool {
	return split(a).kind == kindInfinite
}

// rank rises as numbers do: without their signs they are in the order of their bits.
func rank(a uint64) int64 {
	size := int64(a &^ signBit)
	if a&signBit != 0 {
		return -size
	}
	return size
}
