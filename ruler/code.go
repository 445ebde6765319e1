package ruler

const (
	maxRegs  = 128
	maxIns   = 32
	maxSteps = 2000
	headSize = 6
	stepSize = 4
	maxCode  = headSize + stepSize*maxSteps
)

// The operations of steps.
const (
	opIn   byte = 0
	opCon  byte = 1
	opAdd  byte = 2
	opSub  byte = 3
	opMul  byte = 4
	opSgn  byte = 5
	opOut  byte = 6
	opStop byte = 7
)

// stopLetters has the letter that a STOP adds, at the place of its y.
const stopLetters = "spc"

// byteValues is the length of a list that has a place for each byte, so that no step's register is beyond it.
const byteValues = 256

// marks tells something of each register.
type marks [byteValues]bool

type step struct {
	op, x, y, z byte
}

type program struct {
	regs, ins byte
	steps     []step
}

// setsX tells whether a right step with the operation sets register x; if not, it reads it.
func setsX(op byte) bool {
	return op <= opSgn
}

// readsY tells whether y is a register that the operation reads.
func readsY(op byte) bool {
	return op == opSgn || readsZ(op)
}

// readsZ tells whether z is a register that the operation reads.
func readsZ(op byte) bool {
	return op == opAdd || op == opSub || op == opMul
}

// splitCode answers the parts of a text that begins as a code does and is as long as its number of steps asks.
func splitCode(text string) (program, bool) {
	if len(text) < headSize || text[0] != 'R' || text[1] != 'U' {
		return program{}, false
	}
	p := program{regs: text[2], ins: text[3]}
	if p.regs < 1 || p.regs > maxRegs || p.ins > maxIns {
		return program{}, false
	}
	count := int(text[4]) + 256*int(text[5])
	if count > maxSteps || len(text) != headSize+stepSize*count {
		return program{}, false
	}
	for at := headSize; at+stepSize <= len(text); at += stepSize {
		s := step{op: text[at], x: text[at+1], y: text[at+2], z: text[at+3]}
		p.steps = append(p.steps, s)
	}
	return p, true
}

func joinCode(p program) string {
	count := len(p.steps)
	text := []byte{'R', 'U', p.regs, p.ins, byte(count % 256), byte(count / 256)}
	for _, s := range p.steps {
		text = append(text, s.op, s.x, s.y, s.z)
	}
	return string(text)
}

// operandsFit tells whether the operation is one, and what must be so for it is so.
func operandsFit(s step, ins byte) bool {
	switch s.op {
	case opIn:
		return s.y < ins && s.z == 0
	case opCon, opSgn:
		return s.z == 0
	case opAdd, opSub, opMul:
		return true
	case opOut:
		return s.y == 0 && s.z == 0
	case opStop:
		return int(s.y) < len(stopLetters) && s.z < maxStatements
	}
	return false
}

// readsFit needs no look at REGS: what a right step has set is below it.
func readsFit(s step, set marks) bool {
	if !setsX(s.op) && !set[s.x] {
		return false
	}
	if readsY(s.op) && !set[s.y] {
		return false
	}
	return !readsZ(s.op) || set[s.z]
}

func stepFits(p program, s step, set marks) bool {
	if !operandsFit(s, p.ins) || s.x >= p.regs {
		return false
	}
	return readsFit(s, set)
}

// decode answers the parts of a right code; else its error, with the place that Verify tells.
func decode(text string) (program, Errno, int) {
	if len(text) > maxCode {
		return program{}, ErrLong, 0
	}
	p, ok := splitCode(text)
	if !ok {
		return program{}, ErrCode, 0
	}
	var set marks
	for k, s := range p.steps {
		if !stepFits(p, s, set) {
			return program{}, ErrCode, 1 + k
		}
		if setsX(s.op) {
			set[s.x] = true
		}
	}
	return p, OK, 0
}
