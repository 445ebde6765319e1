package ruler

import "ruler/whole"

const maxDigits = 8000

// machine is what the steps of a right code work with.
type machine struct {
	inputs    []int
	registers [byteValues]whole.Number
	report    []byte
	ended     bool
}

func (m *machine) input(k byte) whole.Number {
	if int(k) >= len(m.inputs) {
		return whole.Number{}
	}
	return whole.FromInt(m.inputs[k])
}

// value answers the number to which a step sets its register.
func (m *machine) value(s step) whole.Number {
	switch s.op {
	case opIn:
		return m.input(s.y)
	case opCon:
		return whole.FromInt(int(s.y))
	case opAdd:
		return m.registers[s.y].Add(m.registers[s.z])
	case opSub:
		return m.registers[s.y].Sub(m.registers[s.z])
	case opMul:
		return m.registers[s.y].Mul(m.registers[s.z])
	}
	sign := m.registers[s.y].Sign()
	return whole.FromInt(sign)
}

// set answers false if the number is too great.
func (m *machine) set(s step) bool {
	number := m.value(s)
	if number.Digits() > maxDigits {
		return false
	}
	m.registers[s.x] = number
	return true
}

func (m *machine) stop(s step) {
	if m.registers[s.x].Sign() != 0 || int(s.y) >= len(stopLetters) {
		return
	}
	m.report = addStop(m.report, stopLetters[s.y], int(s.z))
	m.ended = true
}

// do answers false if a number grows too great.
func (m *machine) do(s step) bool {
	switch s.op {
	case opOut:
		sign := m.registers[s.x].Sign()
		m.report = addAnswer(m.report, sign > 0)
		return true
	case opStop:
		m.stop(s)
		return true
	}
	return m.set(s)
}

// execute answers the report of a right code with as many inputs as it has.
func execute(p program, inputs []int) (string, Errno) {
	m := machine{inputs: inputs}
	for _, s := range p.steps {
		if !m.do(s) {
			return "", ErrBig
		}
		if m.ended {
			break
		}
	}
	return string(m.report), OK
}

// start is what running a code and running a source have in common, once both are right.
func start(p program, inputs string) (string, Errno) {
	numbers, ok := parseInputs(inputs)
	if !ok || len(numbers) != int(p.ins) {
		return "", ErrInput
	}
	return execute(p, numbers)
}
