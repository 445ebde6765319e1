package ruler_test

import (
	"math/big"
	"regexp"
	"strconv"
	"strings"
	"testing"

	"ruler/ruler"
)

func wantExec(t *testing.T, code string, inputs string, report string, fault ruler.Errno) {
	t.Helper()
	if s, e := ruler.Exec(code, inputs); s != report || e != fault {
		t.Errorf("P6: Exec(%.120q, %.60q) tells %.60q, %d, want %.60q, %d", code, inputs, s, e, report, fault)
	}
}

// tooBig is the least number of 8001 digits.
var tooBig = new(big.Int).Exp(big.NewInt(10), big.NewInt(8000), nil)

// execByBig is what Exec must tell of a right code, worked out with the library's great numbers.
func execByBig(code string, inputs []int) (string, ruler.Errno) {
	var registers [128]*big.Int
	report := ""
	for at := 6; at < len(code); at += 4 {
		op, x, y, z := code[at], code[at+1], code[at+2], code[at+3]
		value := new(big.Int)
		switch op {
		case in:
			value.SetInt64(int64(inputs[y]))
		case con:
			value.SetInt64(int64(y))
		case add:
			value.Add(registers[y], registers[z])
		case sub:
			value.Sub(registers[y], registers[z])
		case mul:
			value.Mul(registers[y], registers[z])
		case sgn:
			value.SetInt64(int64(registers[y].Sign()))
		case out:
			report += map[bool]string{true: "1", false: "0"}[registers[x].Sign() > 0]
			continue
		case stop:
			if registers[x].Sign() == 0 {
				return report + "spc"[y:y+1] + strconv.Itoa(int(z)), ruler.OK
			}
			continue
		}
		if value.CmpAbs(tooBig) >= 0 {
			return "", ruler.ErrBig
		}
		registers[x] = value
	}
	return report, ruler.OK
}

// tellSign is a code that tells an expression of two inputs, in register 2, by three answers: above 0, below 0, not 0.
func tellSign(steps ...string) string {
	list := append([]string{makeStep(in, 0, 0, 0), makeStep(in, 1, 1, 0)}, steps...)
	list = append(list, makeStep(out, 2, 0, 0), makeStep(con, 3, 0, 0), makeStep(sub, 3, 3, 2), makeStep(out, 3, 0, 0), makeStep(mul, 3, 2, 2), makeStep(out, 3, 0, 0))
	return makeCode(4, 2, list...)
}

func TestExecOperations(t *testing.T) {
	above, below, nought := "101", "011", "000"
	for _, c := range []struct{ code, inputs, report string }{
		{square, "1", "0"}, {square, "-1", "1"}, {square, "0", "0"}, {square, "99", "1"}, {square, "-99", "1"},
		{makeCode(1, 0), "", ""}, {makeCode(1, 3), "0,0,0", ""}, {outs(2000), "", strings.Repeat("1", 1999)},
		{tellSign(makeStep(in, 2, 0, 0)), "5,-6", above}, {tellSign(makeStep(in, 2, 1, 0)), "5,-6", below}, {tellSign(makeStep(in, 2, 1, 0)), "5,0", nought},
		{tellSign(makeStep(con, 2, 255, 0)), "0,0", above}, {tellSign(makeStep(con, 2, 128, 0)), "0,0", above}, {tellSign(makeStep(con, 2, 0, 0)), "0,0", nought},
		{tellSign(makeStep(con, 3, 255, 0), makeStep(con, 2, 254, 0), makeStep(sub, 2, 3, 2)), "0,0", above},
		{tellSign(makeStep(add, 2, 0, 1)), "3,-2", above}, {tellSign(makeStep(add, 2, 0, 1)), "2,-3", below}, {tellSign(makeStep(add, 2, 0, 1)), "3,-3", nought},
		{tellSign(makeStep(sub, 2, 0, 1)), "3,2", above}, {tellSign(makeStep(sub, 2, 0, 1)), "2,3", below}, {tellSign(makeStep(sub, 2, 0, 1)), "-3,-3", nought}, {tellSign(makeStep(sub, 2, 0, 1)), "-3,-4", above},
		{tellSign(makeStep(mul, 2, 0, 1)), "-3,-2", above}, {tellSign(makeStep(mul, 2, 0, 1)), "-3,2", below}, {tellSign(makeStep(mul, 2, 0, 1)), "-3,0", nought},
		{tellSign(makeStep(sgn, 2, 0, 0), makeStep(sub, 2, 2, 1)), "7,1", nought}, {tellSign(makeStep(sgn, 2, 0, 0), makeStep(sub, 2, 2, 1)), "-7,-1", nought}, {tellSign(makeStep(sgn, 2, 0, 0), makeStep(sub, 2, 2, 1)), "0,0", nought},
		// A step reads before it sets.
		{tellSign(makeStep(con, 2, 3, 0), makeStep(sub, 2, 2, 0), makeStep(sub, 2, 2, 2)), "5,0", nought}, {tellSign(makeStep(mul, 1, 1, 1), makeStep(mul, 1, 1, 1), makeStep(sub, 2, 1, 0)), "81,3", nought},
	} {
		wantExec(t, c.code, c.inputs, c.report, ruler.OK)
	}
}

func TestExecStops(t *testing.T) {
	for letter, name := range []string{"s", "p", "c"} {
		for number := 0; number < 16; number++ {
			code := makeCode(2, 1, makeStep(in, 0, 0, 0), makeStep(out, 0, 0, 0), makeStep(stop, 0, letter, number), makeStep(con, 1, 1, 0), makeStep(out, 1, 0, 0))
			wantExec(t, code, "0", "0"+name+strconv.Itoa(number), ruler.OK)
			wantExec(t, code, "1", "11", ruler.OK)
			wantExec(t, code, "-1", "01", ruler.OK)
		}
	}
	// The first STOP that ends the report is the last step that does anything.
	two := makeCode(2, 2, makeStep(in, 0, 0, 0), makeStep(in, 1, 1, 0), makeStep(stop, 0, 0, 3), makeStep(stop, 1, 1, 12), makeStep(out, 0, 0, 0))
	wantExec(t, two, "0,0", "s3", ruler.OK)
	wantExec(t, two, "4,0", "p12", ruler.OK)
	wantExec(t, two, "4,-4", "1", ruler.OK)
	wantExec(t, makeCode(1, 0, makeStep(con, 0, 0, 0), makeStep(stop, 0, 2, 11), makeStep(out, 0, 0, 0)), "", "c11", ruler.OK)
}

func TestExecErrorsInTheirOrder(t *testing.T) {
	wrong := makeCode(1, 0, makeStep(9, 0, 0, 0))
	long := strings.Repeat("1,", 71)[:141]
	for _, c := range []struct {
		code, inputs string
		fault        ruler.Errno
	}{
		{outs(2001), "", ruler.ErrLong}, {outs(2000) + "x", "x", ruler.ErrLong}, {strings.Repeat("x", 8007), "", ruler.ErrLong}, {strings.Repeat("x", 1<<22), long, ruler.ErrLong},
		{square, long, ruler.ErrLong}, {wrong, long, ruler.ErrLong}, {"", long, ruler.ErrLong}, {square, strings.Repeat("x", 1<<22), ruler.ErrLong},
		{square, long[:140], ruler.ErrInput}, {square, long[:139], ruler.ErrInput}, {outs(2000), "1", ruler.ErrInput},
		{wrong, "x", ruler.ErrCode}, {wrong, long[:140], ruler.ErrCode}, {"", "", ruler.ErrCode}, {"RU", "", ruler.ErrCode}, {strings.Repeat("x", 8006), "", ruler.ErrCode}, {square[:len(square)-1], "1", ruler.ErrCode}, {makeCode(2, 0, makeStep(con, 0, 0, 0), makeStep(stop, 0, 0, 0), makeStep(out, 1, 0, 0)), "", ruler.ErrCode},
		{square, "", ruler.ErrInput}, {square, "1,2", ruler.ErrInput}, {makeCode(1, 0), "0", ruler.ErrInput}, {makeCode(1, 32), strings.Repeat("-99,", 31)[:123], ruler.ErrInput},
		{makeCode(2, 1, power(8000)...), "", ruler.ErrInput}, {makeCode(2, 1, power(8000)...), "5", ruler.ErrBig}, {makeCode(2, 1, append(power(8000), makeStep(9, 0, 0, 0))...), "5", ruler.ErrCode},
	} {
		wantExec(t, c.code, c.inputs, "", c.fault)
	}
	wantExec(t, makeCode(1, 32, makeStep(in, 0, 31, 0), makeStep(out, 0, 0, 0)), strings.Repeat("-99,", 31)+"99", "1", ruler.OK)
}

// rightInputs is the document's rule for inputs.
var rightInputs = regexp.MustCompile(`^((0|-?[1-9][0-9]?)(,(0|-?[1-9][0-9]?))*)?$`)

// Every text of up to six of these bytes: Exec takes it just where it is that many numbers.
func TestExecTakesInputs(t *testing.T) {
	const bytes = "019-,"
	texts := []string{""}
	for i := 0; i < len(texts); i++ {
		text := texts[i]
		right := rightInputs.MatchString(text)
		for ins := 0; ins < 5; ins++ {
			fault := ruler.ErrInput
			if right && ((text == "" && ins == 0) || (text != "" && ins == 1+strings.Count(text, ","))) {
				fault = ruler.OK
			}
			wantExec(t, makeCode(1, ins), text, "", fault)
		}
		for k := 0; k < len(bytes) && len(text) < 6; k++ {
			texts = append(texts, text+bytes[k:k+1])
		}
	}
	for b := 0; b < 256; b++ {
		other := string([]byte{byte(b)})
		for _, text := range []string{other, "1" + other, other + "1", "1," + other, "-" + other, "1" + other + "2"} {
			if strings.ContainsAny(other, "0123456789-,") {
				continue
			}
			wantExec(t, makeCode(1, 1), text, "", ruler.ErrInput)
			wantExec(t, makeCode(1, 2), text, "", ruler.ErrInput)
		}
	}
}

// Each number is read as it is: its register, less a CON, is 0.
func TestExecReadsNumbers(t *testing.T) {
	for n := -99; n <= 99; n++ {
		op, size := sub, n
		if n < 0 {
			op, size = add, -n
		}
		code := makeCode(2, 1, makeStep(in, 0, 0, 0), makeStep(con, 1, size, 0), makeStep(op, 0, 0, 1), makeStep(stop, 0, 1, 5))
		wantExec(t, code, strconv.Itoa(n), "p5", ruler.OK)
	}
	for _, text := range []string{"100", "-100", "990", "00", "-00", "-0", "01", "-01", "+1", "--1", "1.", "1e1", "0x1"} {
		wantExec(t, makeCode(1, 1), text, "", ruler.ErrInput)
	}
	// The numbers keep their order.
	var steps []string
	list := ""
	for k := 0; k < 32; k++ {
		steps = append(steps, makeStep(in, 0, k, 0), makeStep(con, 1, 3*k, 0), makeStep(sub, 0, 0, 1), makeStep(mul, 0, 0, 0), makeStep(out, 0, 0, 0))
		list += "," + strconv.Itoa(3*k)
	}
	wantExec(t, makeCode(2, 32, steps...), list[1:], strings.Repeat("0", 32), ruler.OK)
}

// power answers steps that set register 0 to 10 to the power n; register 1 is 10.
func power(n int) []string {
	list := []string{makeStep(con, 0, 1, 0), makeStep(con, 1, 10, 0)}
	for k := 13; k >= 0; k-- {
		list = append(list, makeStep(mul, 0, 0, 0))
		if n>>k&1 == 1 {
			list = append(list, makeStep(mul, 0, 0, 1))
		}
	}
	return list
}

// behindPower is a code of two inputs, whose steps begin where register 0 is 10 to the power n, and 2 and 3 are the inputs.
func behindPower(n int, steps ...string) string {
	list := append(power(n), makeStep(in, 2, 0, 0), makeStep(in, 3, 1, 0))
	return makeCode(5, 2, append(list, steps...)...)
}

func TestExecTooManyDigits(t *testing.T) {
	output := makeStep(out, 0, 0, 0)
	square := makeStep(mul, 4, 0, 0)
	for _, c := range []struct {
		code, inputs, report string
		fault                ruler.Errno
	}{
		// 10 to the power 7999 has 8000 digits.
		{behindPower(7999, output), "0,0", "1", ruler.OK}, {behindPower(8000, output), "0,0", "", ruler.ErrBig}, {behindPower(7998, makeStep(mul, 0, 0, 1), output), "0,0", "1", ruler.OK}, {behindPower(7999, makeStep(mul, 0, 0, 1)), "0,0", "", ruler.ErrBig},
		// Times an input of either sign: 9 times it has 8000 digits yet, 10 times it has one more.
		{behindPower(7999, makeStep(mul, 4, 0, 2), makeStep(out, 4, 0, 0)), "9,0", "1", ruler.OK}, {behindPower(7999, makeStep(mul, 4, 0, 2), makeStep(out, 4, 0, 0)), "-9,0", "0", ruler.OK}, {behindPower(7999, makeStep(mul, 4, 0, 2)), "10,0", "", ruler.ErrBig}, {behindPower(7999, makeStep(mul, 4, 2, 0)), "-10,0", "", ruler.ErrBig}, {behindPower(7999, makeStep(mul, 4, 2, 0), output), "0,0", "1", ruler.OK},
		// By ADD and SUB: 9 times it and once more.
		{behindPower(7999, makeStep(mul, 4, 0, 2), makeStep(add, 4, 4, 0), output), "8,0", "1", ruler.OK}, {behindPower(7999, makeStep(mul, 4, 0, 2), makeStep(add, 4, 4, 0), output), "9,0", "", ruler.ErrBig}, {behindPower(7999, makeStep(mul, 4, 0, 2), makeStep(sub, 4, 4, 0), output), "9,0", "1", ruler.OK}, {behindPower(7999, makeStep(mul, 4, 0, 2), makeStep(sub, 4, 4, 0), output), "-9,0", "", ruler.ErrBig}, {behindPower(7999, makeStep(mul, 4, 0, 2), makeStep(sub, 4, 0, 4), output), "-9,0", "", ruler.ErrBig},
		// The greatest of 8000 digits is 1 below the least that is too great; it is made as 9 x + (x - 1).
		{behindPower(7999, makeStep(mul, 4, 0, 2), makeStep(sub, 0, 0, 3), makeStep(add, 4, 4, 0), output), "9,1", "1", ruler.OK}, {behindPower(7999, makeStep(mul, 4, 0, 2), makeStep(sub, 0, 0, 3), makeStep(add, 4, 4, 0), makeStep(add, 4, 4, 3)), "9,1", "", ruler.ErrBig}, {behindPower(7999, makeStep(mul, 4, 0, 2), makeStep(add, 0, 0, 3), makeStep(sub, 4, 4, 0), output), "-9,-1", "1", ruler.OK}, {behindPower(7999, makeStep(mul, 4, 0, 2), makeStep(add, 0, 0, 3), makeStep(sub, 4, 4, 0), makeStep(add, 4, 4, 3)), "-9,-1", "", ruler.ErrBig},
		// A number that nothing reads is too great all the same; behind the report's end, or where nothing is set, none is.
		{behindPower(7999, output, square, output), "0,0", "", ruler.ErrBig}, {behindPower(7999, output, makeStep(stop, 2, 1, 6), square), "0,0", "1p6", ruler.OK}, {behindPower(7999, output, makeStep(stop, 2, 1, 6), square), "1,0", "", ruler.ErrBig}, {behindPower(7999, square, makeStep(stop, 2, 1, 6)), "0,0", "", ruler.ErrBig},
		// Differences of great numbers that are all but the same.
		{behindPower(7999, makeStep(add, 4, 0, 2), makeStep(sub, 4, 4, 0), makeStep(out, 4, 0, 0), makeStep(sub, 4, 4, 2), makeStep(stop, 4, 2, 9)), "7,0", "1c9", ruler.OK}, {behindPower(7999, makeStep(sub, 4, 0, 2), makeStep(sub, 4, 4, 0), makeStep(out, 4, 0, 0), makeStep(add, 4, 4, 2), makeStep(stop, 4, 2, 9)), "7,0", "0c9", ruler.OK},
	} {
		wantExec(t, c.code, c.inputs, c.report, c.fault)
	}
}

// The same binomials by two ways, of numbers of some thousand digits.
func TestExecGreatProducts(t *testing.T) {
	steps := []string{makeStep(in, 0, 0, 0), makeStep(in, 1, 1, 0)}
	for n := 0; n < 10; n++ {
		steps = append(steps, makeStep(mul, 0, 0, 0), makeStep(mul, 1, 1, 1), makeStep(sub, 1, 1, 0))
	}
	steps = append(steps,
		makeStep(add, 2, 0, 1), makeStep(mul, 2, 2, 2),
		makeStep(mul, 3, 0, 0), makeStep(mul, 4, 1, 1), makeStep(add, 3, 3, 4), makeStep(mul, 4, 0, 1), makeStep(add, 4, 4, 4), makeStep(add, 3, 3, 4),
		makeStep(sub, 4, 2, 3), makeStep(out, 2, 0, 0), makeStep(stop, 4, 0, 1), makeStep(out, 0, 0, 0))
	for _, inputs := range []string{"99,98", "-97,89", "3,-2", "0,0", "1,1", "10,99"} {
		told, fault := ruler.Exec(makeCode(5, 2, steps...), inputs)
		if fault != ruler.OK || !strings.HasSuffix(told, "s1") {
			t.Errorf("P6: the square of a sum of %s: %q, %d", inputs, told, fault)
		}
	}
}

func TestExecByTheLibrary(t *testing.T) {
	state := uint32(11)
	bigs, reports, stops := 0, 0, 0
	for n := 0; n < 3000; n++ {
		often := []int{in, add, sub, mul, mul, sgn, out, con}
		if n%3 == 0 {
			often = []int{con, add, mul, mul, mul, sub, mul, mul, add, mul, out, add, mul, mul, mul, mul}
		}
		if n%3 == 1 {
			often = append(often, sub, stop)
		}
		code := chanceCode(&state, 1+n%100, often)
		inputs := []int{chance(&state, 199) - 99, chance(&state, 5) - 2, chance(&state, 199) - 99}
		report, fault := execByBig(code, inputs)
		wantExec(t, code, strconv.Itoa(inputs[0])+","+strconv.Itoa(inputs[1])+","+strconv.Itoa(inputs[2]), report, fault)
		switch {
		case fault == ruler.ErrBig:
			bigs++
		case strings.ContainsAny(report, "spc"):
			stops++
		case report != "":
			reports++
		}
	}
	if bigs < 100 || stops < 100 || reports < 100 {
		t.Errorf("too few codes of a kind: %d too great, %d stopped, %d to the end", bigs, stops, reports)
	}
}
