package whole

// rowsAtOnce rows of products, each below base squared, can be added to a limb below base before it outgrows 64 bits.
const rowsAtOnce = 16

// tally is a list of limbs that is being made: they may be above base until carry is called.
type tally struct {
	limbs []uint64
}

// addRow adds b times factor from the limb at on, as far as there are limbs.
func (t *tally) addRow(at int, b []uint64, factor uint64) {
	for k := 0; k < len(b) && at+k < len(t.limbs); k++ {
		t.limbs[at+k] += b[k] * factor
	}
}

// carry brings each limb below base; there must be limbs enough for the whole number.
func (t *tally) carry() {
	over := uint64(0)
	for k := range t.limbs {
		all := t.limbs[k] + over
		t.limbs[k] = all % base
		over = all / base
	}
}

// done answers the limbs without noughts on top.
func (t *tally) done() []uint64 {
	length := len(t.limbs)
	for length > 0 && t.limbs[length-1] == 0 {
		length--
	}
	return t.limbs[:length]
}

func limbsOf(n uint64) []uint64 {
	// Three limbs hold 27 digits, and 64 bits no more than 20.
	t := tally{limbs: []uint64{n, 0, 0}}
	t.carry()
	return t.done()
}

// less tells whether a is below b.
func less(a []uint64, b []uint64) bool {
	if len(a) != len(b) {
		return len(a) < len(b)
	}
	for k := len(a) - 1; k >= 0; k-- {
		if a[k] != b[k] {
			return a[k] < b[k]
		}
	}
	return false
}

func total(a []uint64, b []uint64) []uint64 {
	length := len(a)
	if length < len(b) {
		length = len(b)
	}
	t := tally{limbs: make([]uint64, length+1)}
	t.addRow(0, a, 1)
	t.addRow(0, b, 1)
	t.carry()
	return t.done()
}

// difference answers a less b; b must not be above a.
func difference(a []uint64, b []uint64) []uint64 {
	t := tally{limbs: make([]uint64, len(a))}
	borrow := uint64(0)
	for k := range a {
		rest := base + a[k] - borrow
		if k < len(b) {
			rest -= b[k]
		}
		t.limbs[k] = rest % base
		borrow = 1 - rest/base
	}
	return t.done()
}

func product(a []uint64, b []uint64) []uint64 {
	t := tally{limbs: make([]uint64, len(a)+len(b))}
	for k := range a {
		t.addRow(k, b, a[k])
		if k%rowsAtOnce == rowsAtOnce-1 {
			t.carry()
		}
	}
	t.carry()
	return t.done()
}
