package ruler

// What a construction gives is kept in three registers of its statement's own; above all those are the spare ones.
const (
	partsKept  = 3
	firstSpare = partsKept * maxStatements
)

// The places of the letters in stopLetters.
const (
	stopSame     byte = 0
	stopParallel byte = 1
	stopStraight byte = 2
)

// maker writes the steps of a code. A result never goes over another of the same statement:
// the greatest statement, a centre, takes 62 spare registers, and 128 less 48 are there.
// It takes 66 steps, so 16 statements stay below 2000.
type maker struct {
	steps  []step
	spare  byte // the next spare register
	inputs byte // how many inputs have been read
}

func (m *maker) add(op byte, x byte, y byte, z byte) {
	m.steps = append(m.steps, step{op: op, x: x, y: y, z: z})
}

// work answers the spare register in which it lays the result.
func (m *maker) work(op byte, y byte, z byte) byte {
	x := m.spare
	m.spare++
	m.add(op, x, y, z)
	return x
}

func (m *maker) input() byte {
	y := m.inputs
	m.inputs++
	return m.work(opIn, y, 0)
}

func (m *maker) constant(number byte) byte {
	return m.work(opCon, number, 0)
}

func (m *maker) sum(y byte, z byte) byte {
	return m.work(opAdd, y, z)
}

func (m *maker) difference(y byte, z byte) byte {
	return m.work(opSub, y, z)
}

func (m *maker) product(y byte, z byte) byte {
	return m.work(opMul, y, z)
}

func (m *maker) sign(y byte) byte {
	return m.work(opSgn, y, 0)
}

func (m *maker) negative(y byte) byte {
	nought := m.constant(0)
	return m.difference(nought, y)
}

// isNought answers a register that is 1 where register y is 0, else 0.
func (m *maker) isNought(y byte) byte {
	sign := m.sign(y)
	square := m.product(sign, sign)
	one := m.constant(1)
	return m.difference(one, square)
}

// productsSum answers p q + r s.
func (m *maker) productsSum(p byte, q byte, r byte, s byte) byte {
	first := m.product(p, q)
	second := m.product(r, s)
	return m.sum(first, second)
}

// productsDifference answers p q - r s.
func (m *maker) productsDifference(p byte, q byte, r byte, s byte) byte {
	first := m.product(p, q)
	second := m.product(r, s)
	return m.difference(first, second)
}
