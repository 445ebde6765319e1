package ruler_test

import (
	"strings"
	"testing"

	"ruler/ruler"
)

// The operations, with the names of the document.
const (
	in = iota
	con
	add
	sub
	mul
	sgn
	out
	stop
)

func makeStep(op, x, y, z int) string {
	return string([]byte{byte(op), byte(x), byte(y), byte(z)})
}

// makeHead makes the first six bytes of a code.
func makeHead(regs, ins, steps int) string {
	return "RU" + string([]byte{byte(regs), byte(ins), byte(steps), byte(steps >> 8)})
}

func makeCode(regs, ins int, steps ...string) string {
	return makeHead(regs, ins, len(steps)) + strings.Join(steps, "")
}

// outs is a code of a CON and OUTs behind it, of so many steps in all.
func outs(steps int) string {
	return makeHead(1, 0, steps) + makeStep(con, 0, 3, 0) + strings.Repeat(makeStep(out, 0, 0, 0), steps-1)
}

// square is the document's example: is the square of the input, less the input, above 0?
const square = "RU\x02\x01\x04\x00" + "\x00\x00\x00\x00" + "\x04\x01\x00\x00" + "\x03\x01\x01\x00" + "\x06\x01\x00\x00"

// everyStep has each operation, at its least and at its greatest operands.
var everyStep = makeCode(5, 3,
	makeStep(in, 0, 0, 0), makeStep(in, 4, 2, 0), makeStep(con, 1, 0, 0), makeStep(con, 4, 255, 0),
	makeStep(add, 2, 0, 4), makeStep(sub, 2, 2, 1), makeStep(mul, 2, 2, 2), makeStep(sgn, 3, 4, 0),
	makeStep(out, 3, 0, 0), makeStep(stop, 3, 0, 0), makeStep(stop, 4, 2, 15), makeStep(out, 4, 0, 0))

// operandKinds has for each operation what its x, y and z are: w is a register that it sets, r one that it reads,
// i an input, n a number, 0 a nought, l a letter's number, k a statement's number.
var operandKinds = []string{"wi0", "wn0", "wrr", "wrr", "wrr", "wr0", "r00", "rlk"}

// rightOperand tells whether an operand of a kind may be the byte b.
func rightOperand(kind byte, b, regs, ins int, set map[int]bool) bool {
	switch kind {
	case 'w':
		return b < regs
	case 'r':
		return b < regs && set[b]
	case 'i':
		return b < ins
	case '0':
		return b == 0
	case 'l':
		return b < 3
	case 'k':
		return b < 16
	}
	return true
}

// verifyByKinds is what Verify must tell, by the document's words.
func verifyByKinds(code string) (ruler.Errno, int) {
	if len(code) > 8006 {
		return ruler.ErrLong, 0
	}
	if len(code) < 6 || !strings.HasPrefix(code, "RU") {
		return ruler.ErrCode, 0
	}
	regs, ins, steps := int(code[2]), int(code[3]), int(code[4])|int(code[5])<<8
	if regs == 0 || regs > 128 || ins > 32 || steps > 2000 || len(code)-6 != 4*steps {
		return ruler.ErrCode, 0
	}
	set := map[int]bool{}
	for k := 0; k < steps; k++ {
		s := code[6+4*k : 10+4*k]
		if int(s[0]) >= len(operandKinds) {
			return ruler.ErrCode, 1 + k
		}
		kinds := operandKinds[s[0]]
		for i := 0; i < 3; i++ {
			if !rightOperand(kinds[i], int(s[1+i]), regs, ins, set) {
				return ruler.ErrCode, 1 + k
			}
		}
		if kinds[0] == 'w' {
			set[int(s[1])] = true
		}
	}
	return ruler.OK, 0
}

func wantVerify(t *testing.T, code string, fault ruler.Errno, place int) {
	t.Helper()
	if e, at := ruler.Verify(code); e != fault || at != place {
		t.Errorf("P5: Verify(%.80q) tells %d, %d, want %d, %d", code, e, at, fault, place)
	}
}

func TestVerifyRightCodes(t *testing.T) {
	for _, code := range []string{
		square, everyStep, outs(1), outs(255), outs(256), outs(257), outs(2000), makeCode(1, 0), makeCode(128, 32), makeCode(1, 32), makeCode(128, 0),
		makeCode(128, 32, makeStep(in, 127, 31, 0), makeStep(sgn, 0, 127, 0), makeStep(mul, 127, 127, 0), makeStep(stop, 127, 2, 15), makeStep(out, 127, 0, 0)),
		// A register that is set only behind a STOP that always ends the report counts as set all the same.
		makeCode(2, 0, makeStep(con, 0, 0, 0), makeStep(stop, 0, 0, 0), makeStep(con, 1, 1, 0), makeStep(out, 1, 0, 0)),
		// A step may read the register that it sets.
		makeCode(1, 0, makeStep(con, 0, 1, 0), makeStep(add, 0, 0, 0), makeStep(sgn, 0, 0, 0)),
	} {
		wantVerify(t, code, ruler.OK, 0)
	}
}

func TestVerifyHeads(t *testing.T) {
	for _, code := range []string{
		"", "R", "RU", "RU\x01", "RU\x01\x00", "RU\x01\x00\x00", "rU\x01\x00\x00\x00", "Ru\x01\x00\x00\x00", "UR\x01\x00\x00\x00", "\x00U\x01\x00\x00\x00",
		makeHead(0, 0, 0), makeHead(129, 0, 0), makeHead(255, 0, 0), makeHead(1, 33, 0), makeHead(1, 255, 0),
		makeHead(1, 0, 1), makeHead(1, 0, 256), makeHead(1, 0, 2000), makeHead(1, 0, 2001), makeHead(1, 0, 65535), makeHead(1, 0, 0) + "\x00",
		square[:len(square)-1], square[:len(square)-4], square + "\x00", square + makeStep(out, 1, 0, 0),
		// The head's faults and the length's go ahead of a step's.
		makeHead(0, 0, 1) + makeStep(9, 0, 0, 0), makeHead(1, 0, 1) + makeStep(9, 0, 0, 0) + "\x00",
		// Were the high byte of the number read first, this would be as long as it asks.
		makeHead(1, 0, 256) + makeStep(con, 0, 0, 0), makeHead(1, 0, 2001) + outs(2000)[6:], outs(2000)[:8005], outs(2000)[:8002],
	} {
		wantVerify(t, code, ruler.ErrCode, 0)
	}
	for _, code := range []string{outs(2001), outs(2000) + "\x00", strings.Repeat("R", 8007), strings.Repeat("\x00", 1<<22), makeHead(0, 0, 0) + strings.Repeat("x", 8001)} {
		wantVerify(t, code, ruler.ErrLong, 0)
	}
}

func TestVerifyTellsTheFirstWrongStep(t *testing.T) {
	set := makeStep(con, 0, 1, 0)
	for _, c := range []struct {
		wrong string
		why   string
	}{
		{makeStep(8, 0, 0, 0), "no operation"}, {makeStep(255, 0, 0, 0), "no operation"},
		{makeStep(in, 1, 1, 0), "no such input"}, {makeStep(in, 1, 0, 1), "z of IN"}, {makeStep(in, 2, 0, 0), "register of IN"},
		{makeStep(con, 1, 0, 1), "z of CON"}, {makeStep(con, 2, 0, 0), "register of CON"},
		{makeStep(add, 2, 0, 0), "x of ADD"}, {makeStep(add, 0, 1, 0), "y of ADD not set"}, {makeStep(add, 0, 0, 1), "z of ADD not set"},
		{makeStep(sub, 2, 0, 0), "x of SUB"}, {makeStep(sub, 0, 1, 0), "y of SUB not set"}, {makeStep(sub, 0, 0, 1), "z of SUB not set"},
		{makeStep(mul, 2, 0, 0), "x of MUL"}, {makeStep(mul, 0, 1, 0), "y of MUL not set"}, {makeStep(mul, 0, 0, 1), "z of MUL not set"},
		{makeStep(add, 1, 1, 0), "y of ADD set by itself alone"}, {makeStep(sgn, 1, 1, 0), "y of SGN set by itself alone"}, {makeStep(mul, 0, 0, 200), "z of MUL beyond"},
		{makeStep(sgn, 2, 0, 0), "x of SGN"}, {makeStep(sgn, 0, 1, 0), "y of SGN not set"}, {makeStep(sgn, 0, 0, 1), "z of SGN"},
		{makeStep(out, 1, 0, 0), "x of OUT not set"}, {makeStep(out, 2, 0, 0), "x of OUT"}, {makeStep(out, 0, 1, 0), "y of OUT"}, {makeStep(out, 0, 0, 1), "z of OUT"},
		{makeStep(stop, 1, 0, 0), "x of STOP not set"}, {makeStep(stop, 0, 3, 0), "letter of STOP"}, {makeStep(stop, 0, 0, 16), "number of STOP"},
	} {
		for ahead := 1; ahead < 4; ahead++ {
			steps := []string{}
			for len(steps) < ahead {
				steps = append(steps, set)
			}
			steps = append(steps, c.wrong, makeStep(9, 9, 9, 9), set)
			if e, at := ruler.Verify(makeCode(2, 1, steps...)); e != ruler.ErrCode || at != 1+ahead {
				t.Errorf("P5: %s, in step %d: Verify tells %d, %d", c.why, ahead, e, at)
			}
		}
	}
	wantVerify(t, makeCode(2, 1, makeStep(out, 0, 0, 0)), ruler.ErrCode, 1)
	wantVerify(t, square[:len(square)-3]+"\x02\x00\x00", ruler.ErrCode, 4)
	wantVerify(t, outs(2000)[:8005]+"\x01", ruler.ErrCode, 2000)
	// The register is set, but by a step behind.
	wantVerify(t, makeCode(2, 0, makeStep(con, 0, 0, 0), makeStep(out, 1, 0, 0), makeStep(con, 1, 0, 0)), ruler.ErrCode, 2)
}

func TestVerifyEveryChangeOfAByte(t *testing.T) {
	for _, code := range []string{square, everyStep, makeCode(128, 32, makeStep(in, 127, 31, 0), makeStep(add, 126, 127, 127), makeStep(stop, 126, 1, 9))} {
		for i := range code {
			for b := 0; b < 256; b++ {
				changed := code[:i] + string([]byte{byte(b)}) + code[i+1:]
				fault, place := verifyByKinds(changed)
				wantVerify(t, changed, fault, place)
			}
			fault, place := verifyByKinds(code[:i])
			wantVerify(t, code[:i], fault, place)
		}
	}
}
