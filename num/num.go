// Package num reckons with numbers of 64 bits.
package num

import "math/bits"

// leastSize is the magnitude of -2^63, which is one more than that of the greatest number of 64 bits.
const leastSize uint64 = 1 << 63

// Add answers a sum; false: it is too great.
func Add(a, b int64) (int64, bool) {
	sum := a + b
	// A sum that wrapped round lies on the wrong side of a.
	if (sum > a) != (b > 0) {
		return 0, false
	}
	return sum, true
}

// Sub answers a less b; false: it is too great.
func Sub(a, b int64) (int64, bool) {
	rest := a - b
	// It isn't Add(a, -b): -2^63 has no opposite.
	if (rest < a) != (b > 0) {
		return 0, false
	}
	return rest, true
}

// Mul answers a product; false: it is too great.
func Mul(a, b int64) (int64, bool) {
	return signed(product(magnitude(a), magnitude(b)), (a < 0) != (b < 0))
}

// Ratio answers v times num, divided by den.
func Ratio(v, num, den int64) (int64, bool) {
	if den < 1 {
		return 0, false
	}
	whole, ok := Mul(v, num)
	if !ok {
		return 0, false
	}
	return whole / den, true
}

// magnitude answers how far a number is from 0; unsigned, so that -2^63 has one too.
func magnitude(a int64) uint64 {
	if a < 0 {
		return -uint64(a)
	}
	return uint64(a)
}

// product answers the upper and the lower half of a product of 128 bits, so that none is too great to be looked at.
func product(a, b uint64) [2]uint64 {
	var halves [2]uint64
	halves[0], halves[1] = bits.Mul64(a, b)
	return halves
}

// signed answers the number with that magnitude and sign; false: it has more than 64 bits.
func signed(halves [2]uint64, below bool) (int64, bool) {
	if halves[0] != 0 {
		return 0, false
	}
	if below && halves[1] <= leastSize {
		return int64(-halves[1]), true
	}
	if !below && halves[1] < leastSize {
		return int64(halves[1]), true
	}
	return 0, false
}
