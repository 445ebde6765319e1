// Package whole: whole numbers of any size, that are added, subtracted and multiplied.
package whole

// Nine decimal digits a limb: so the digits of a number are counted at a glance,
// and the products of limbs leave room for sums of them in 64 bits.
const (
	limbDigits = 9
	base       = 1000000000
)

// Number is a whole number; the zero value is 0. No call changes the limbs of a number, once it is made.
type Number struct {
	negative bool     // never of 0
	limbs    []uint64 // each below base, the low one first, the last not 0; none of 0
}

// FromInt makes a Number of an int.
func FromInt(n int) Number {
	if n < 0 {
		// The least int has no opposite among the ints, but n + 1 has.
		return Number{negative: true, limbs: limbsOf(uint64(-(n + 1)) + 1)}
	}
	return Number{limbs: limbsOf(uint64(n))}
}

// signed puts sign and limbs together, so that 0 is never negative.
func signed(negative bool, limbs []uint64) Number {
	if len(limbs) == 0 {
		return Number{}
	}
	return Number{negative: negative, limbs: limbs}
}

// Sign answers -1, 0 or 1.
func (a Number) Sign() int {
	if len(a.limbs) == 0 {
		return 0
	}
	if a.negative {
		return -1
	}
	return 1
}

// Digits answers how many decimal digits a number has, without a nought ahead; 0 has one.
func (a Number) Digits() int {
	if len(a.limbs) == 0 {
		return 1
	}
	last := len(a.limbs) - 1
	digits := last * limbDigits
	for top := a.limbs[last]; top > 0; top /= 10 {
		digits++
	}
	return digits
}

// Add answers a + b.
func (a Number) Add(b Number) Number {
	return sum(a, b.negative, b.limbs)
}

// Sub answers a - b.
func (a Number) Sub(b Number) Number {
	return sum(a, !b.negative, b.limbs)
}

// Mul answers a times b.
func (a Number) Mul(b Number) Number {
	return signed(a.negative != b.negative, product(a.limbs, b.limbs))
}

// sum takes its second number in parts, because Sub turns the sign of one that may be 0.
func sum(a Number, negative bool, limbs []uint64) Number {
	if a.negative == negative {
		return signed(negative, total(a.limbs, limbs))
	}
	if less(a.limbs, limbs) {
		return signed(negative, difference(limbs, a.limbs))
	}
	return signed(a.negative, difference(a.limbs, limbs))
}
