package ruler_test

import (
	"strings"
	"testing"

	"ruler/ruler"
)

// readBy answers the registers that a step reads, setBy the one that it sets (or -1), by the table of kinds.
func readBy(step string) []byte {
	var list []byte
	for i := 0; i < 3; i++ {
		if operandKinds[step[0]][i] == 'r' {
			list = append(list, step[1+i])
		}
	}
	return list
}

func setBy(step string) int {
	if operandKinds[step[0]][0] == 'w' {
		return int(step[1])
	}
	return -1
}

// isNeeded follows the document's words from a step to those behind it.
func isNeeded(steps []string, k int) bool {
	register := setBy(steps[k])
	if register < 0 {
		return true
	}
	for j := k + 1; j < len(steps); j++ {
		for _, r := range readBy(steps[j]) {
			if int(r) == register && isNeeded(steps, j) {
				return true
			}
		}
		if setBy(steps[j]) == register {
			return false
		}
	}
	return false
}

func shrinkByWords(code string) string {
	var steps, kept []string
	for at := 6; at < len(code); at += 4 {
		steps = append(steps, code[at:at+4])
	}
	for k := range steps {
		if isNeeded(steps, k) {
			kept = append(kept, steps[k])
		}
	}
	return makeCode(int(code[2]), int(code[3]), kept...)
}

// chance answers the next of a row of numbers, the same row each time.
func chance(state *uint32, below int) int {
	*state = *state*1664525 + 1013904223
	return int(*state>>8) % below
}

// chanceCode makes a right code of three inputs, whose operations are drawn from often.
func chanceCode(state *uint32, steps int, often []int) string {
	regs := 1 + chance(state, 6)
	set := []int{}
	var list []string
	for len(list) < steps {
		op := often[chance(state, len(often))]
		if len(set) == 0 && op > con {
			op = con
		}
		x, y, z := chance(state, regs), 0, 0
		if len(set) > 0 {
			y, z = set[chance(state, len(set))], set[chance(state, len(set))]
		}
		switch op {
		case in:
			y, z = chance(state, 3), 0
		case con:
			y, z = chance(state, 256), 0
		case sgn:
			z = 0
		case out:
			x, y, z = y, 0, 0
		case stop:
			x, y, z = y, chance(state, 3), chance(state, 16)
		}
		list = append(list, makeStep(op, x, y, z))
		if op <= sgn {
			set = append(set, x)
		}
	}
	return makeCode(regs, 3, list...)
}

func wantShrink(t *testing.T, code string, shrunk string, fault ruler.Errno) {
	t.Helper()
	if s, e := ruler.Shrink(code); s != shrunk || e != fault {
		t.Errorf("P7: Shrink(%.100q) tells %.100q, %d, want %.100q, %d", code, s, e, shrunk, fault)
	}
}

func TestShrink(t *testing.T) {
	one, output := makeStep(con, 0, 1, 0), makeStep(out, 0, 0, 0)
	for _, c := range []struct{ code, shrunk string }{
		{square, square},
		{makeCode(3, 0, makeStep(con, 0, 5, 0), makeStep(con, 1, 6, 0), makeStep(con, 0, 7, 0), output), makeCode(3, 0, makeStep(con, 0, 7, 0), output)},
		{makeCode(1, 0), makeCode(1, 0)}, {makeCode(128, 32), makeCode(128, 32)}, {makeCode(7, 9, one, makeStep(in, 6, 8, 0)), makeCode(7, 9)},
		// What a needed step reads and sets at once is needed of the step ahead.
		{makeCode(1, 0, one, makeStep(add, 0, 0, 0), output), makeCode(1, 0, one, makeStep(add, 0, 0, 0), output)},
		{makeCode(2, 0, one, makeStep(con, 1, 1, 0), makeStep(sub, 0, 1, 1), output), makeCode(2, 0, makeStep(con, 1, 1, 0), makeStep(sub, 0, 1, 1), output)},
		// Read by y, by z, by SGN, by STOP.
		{makeCode(2, 0, one, makeStep(con, 1, 2, 0), makeStep(mul, 0, 0, 1), output), makeCode(2, 0, one, makeStep(con, 1, 2, 0), makeStep(mul, 0, 0, 1), output)},
		{makeCode(2, 0, one, makeStep(sgn, 1, 0, 0), makeStep(stop, 1, 0, 0)), makeCode(2, 0, one, makeStep(sgn, 1, 0, 0), makeStep(stop, 1, 0, 0))},
		// Read only by a step that is not needed.
		{makeCode(2, 0, one, makeStep(sgn, 1, 0, 0), makeStep(con, 0, 2, 0), output), makeCode(2, 0, makeStep(con, 0, 2, 0), output)},
		// The numbers of IN and CON, and the noughts of others, are no registers.
		{makeCode(2, 2, makeStep(con, 1, 4, 0), makeStep(in, 0, 1, 0), output), makeCode(2, 2, makeStep(in, 0, 1, 0), output)},
		{makeCode(2, 0, makeStep(con, 1, 4, 0), makeStep(con, 0, 1, 0), output), makeCode(2, 0, makeStep(con, 0, 1, 0), output)},
		{makeCode(2, 0, one, makeStep(con, 1, 4, 0), makeStep(out, 1, 0, 0)), makeCode(2, 0, makeStep(con, 1, 4, 0), makeStep(out, 1, 0, 0))},
		{makeCode(3, 0, makeStep(con, 1, 4, 0), one, makeStep(con, 2, 4, 0), makeStep(stop, 2, 1, 0)), makeCode(3, 0, makeStep(con, 2, 4, 0), makeStep(stop, 2, 1, 0))},
		{makeCode(2, 0, one, makeStep(con, 1, 4, 0), makeStep(sgn, 1, 1, 0), makeStep(out, 1, 0, 0)), makeCode(2, 0, makeStep(con, 1, 4, 0), makeStep(sgn, 1, 1, 0), makeStep(out, 1, 0, 0))},
		// All OUTs and STOPs stay, behind one that always ends the report too.
		{makeCode(1, 0, makeStep(con, 0, 0, 0), makeStep(stop, 0, 0, 0), one, output, output), makeCode(1, 0, makeStep(con, 0, 0, 0), makeStep(stop, 0, 0, 0), one, output, output)},
		{outs(2000), outs(2000)}, {outs(300), outs(300)},
		{makeHead(1, 0, 2000) + strings.Repeat(one, 1999) + output, makeCode(1, 0, one, output)},
		{makeHead(1, 0, 1000) + strings.Repeat(one+output, 500), makeHead(1, 0, 1000) + strings.Repeat(one+output, 500)},
		{makeHead(1, 0, 1998) + strings.Repeat(one+one+output, 666), makeHead(1, 0, 1332) + strings.Repeat(one+output, 666)},
	} {
		wantShrink(t, c.code, c.shrunk, ruler.OK)
	}
}

func TestShrinkWrongCodes(t *testing.T) {
	for _, code := range []string{"", "RU", square + "x", makeHead(0, 0, 0), makeCode(2, 1, makeStep(out, 0, 0, 0)), makeCode(1, 0, makeStep(9, 0, 0, 0)), makeCode(2, 0, makeStep(con, 0, 1, 0), makeStep(add, 0, 0, 1))} {
		wantShrink(t, code, "", ruler.ErrCode)
	}
	for _, code := range []string{outs(2001), outs(2000) + "x", strings.Repeat("x", 8007), strings.Repeat("x", 1<<22)} {
		wantShrink(t, code, "", ruler.ErrLong)
	}
}

func TestShrinkByTheWords(t *testing.T) {
	state := uint32(3)
	often := []int{in, con, con, add, sub, mul, sgn, sgn, add, out, stop, add}
	for n := 0; n < 1500; n++ {
		code := chanceCode(&state, 1+n%23, often)
		wantVerify(t, code, ruler.OK, 0)
		shrunk := shrinkByWords(code)
		wantShrink(t, code, shrunk, ruler.OK)
		wantShrink(t, shrunk, shrunk, ruler.OK)
		wantVerify(t, shrunk, ruler.OK, 0)
		for _, inputs := range []string{"0,0,0", "1,-2,3", "-99,98,0"} {
			told, fault := ruler.Exec(code, inputs)
			if fault == ruler.OK {
				wantExec(t, shrunk, inputs, told, ruler.OK)
			}
		}
	}
}
