package ruler_test

import (
	"math"
	"strings"
	"testing"

	"ruler/ruler"
)

// answers are all that the calls tell of two texts and a number.
type answers struct {
	check, verify                                   ruler.Errno
	checkAt, verifyAt, needs, weight                int
	exec, shrink, run, compile                      string
	needsE, weightE, execE, shrinkE, runE, compileE ruler.Errno
}

func callAll(text string, other string, number int) answers {
	var a answers
	a.check, a.checkAt = ruler.Check(text)
	a.needs, a.needsE = ruler.Needs(text)
	a.weight, a.weightE = ruler.Weight(text, number)
	a.verify, a.verifyAt = ruler.Verify(text)
	a.exec, a.execE = ruler.Exec(text, other)
	a.shrink, a.shrinkE = ruler.Shrink(text)
	a.run, a.runE = ruler.Run(text, other)
	a.compile, a.compileE = ruler.Compile(text)
	return a
}

// strangeTexts are of all lengths and kinds: of chance bytes (by a rule, the same each time), sources, wrong ones, and huge ones.
func strangeTexts() []string {
	list := []string{
		"", "a", "?", "=", "\x00", "\xff", "é", "RU", "RU\x01\x00\x00\x00", square, everyStep, outs(2000), outs(2001), behindPower(8000), makeCode(5, 2, makeStep(in, 0, 0, 0), makeStep(out, 0, 0, 0)), "-0", "1,2", "a=pt();", heavyChain, weighed,
		strings.Repeat("a=pt();", 16), strings.Repeat("?", 300), strings.Repeat("(", 301), strings.Repeat("a,", 8003),
		strings.Repeat("a", 1<<20), strings.Repeat("\x00", 1<<20), strings.Repeat("a=pt();", 1<<18), strings.Repeat("\xff", 8006),
	}
	for _, c := range wrongSources {
		list = append(list, c.source)
	}
	for i := 0; i < len(everyStep); i += 3 {
		list = append(list, everyStep[:i], everyStep[:i]+"\xff"+everyStep[i+1:])
	}
	const bytes = "aabclz=?(),;;ptmidonline\x00\xffRU19-"
	state := uint32(1)
	for length := 1; length < 310; length++ {
		text := make([]byte, length)
		for i := range text {
			state = state*1664525 + 1013904223
			text[i] = bytes[int(state>>16)%len(bytes)]
		}
		list = append(list, string(text))
	}
	return list
}

func TestCallsEndAtAllTexts(t *testing.T) {
	numbers := []int{0, 1, -1, 15, 16, math.MaxInt, math.MinInt}
	texts := strangeTexts()
	for i, text := range texts {
		a := callAll(text, texts[(i+7)%len(texts)], numbers[i%len(numbers)])
		if a.needsE != a.check || (a.check != ruler.OK && a.weightE != a.check) {
			t.Errorf("P4: of %.80q Check tells %d, Needs %d, Weight %d", text, a.check, a.needsE, a.weightE)
		}
		for _, r := range []struct {
			call   string
			fault  ruler.Errno
			answer bool
		}{
			{"Needs", a.needsE, a.needs != 0}, {"Weight", a.weightE, a.weight != 0}, {"Exec", a.execE, a.exec != ""},
			{"Shrink", a.shrinkE, a.shrink != ""}, {"Run", a.runE, a.run != ""}, {"Compile", a.compileE, a.compile != ""},
		} {
			if r.fault != ruler.OK && r.answer {
				t.Errorf("P1: %s of %.80q tells something beside the error %d", r.call, text, r.fault)
			}
		}
		if a.check == ruler.OK && a.checkAt != 0 {
			t.Errorf("P3: Check of %.80q tells OK and %d", text, a.checkAt)
		}
		if a.verify == ruler.OK && a.verifyAt != 0 {
			t.Errorf("P5: Verify of %.80q tells OK and %d", text, a.verifyAt)
		}
		if a.compileE != a.check || (a.check != ruler.OK && a.runE != a.check && a.runE != ruler.ErrLong) {
			t.Errorf("P8, P9: of %.80q Check tells %d, Run %d, Compile %d", text, a.check, a.runE, a.compileE)
		}
		if a.shrinkE != a.verify {
			t.Errorf("P7: of %.80q Verify tells %d, Shrink %d", text, a.verify, a.shrinkE)
		}
	}
}

func TestTooLongGoesAheadOfAllElse(t *testing.T) {
	for _, unit := range []string{"a=pt();", "?no();", "\x00", "x", "?on(a,a);"} {
		long := strings.Repeat(unit, 1<<20)
		for _, text := range []string{long, long[:301], long[:302], heavyChain + long, long + ";"} {
			wantCheck(t, text, ruler.ErrLong, 0)
			wantNeeds(t, text, 0, ruler.ErrLong)
			wantWeight(t, text, 0, 0, ruler.ErrLong)
			wantWeight(t, text, -1, 0, ruler.ErrLong)
			wantRun(t, text, "", "", ruler.ErrLong)
			wantRun(t, text, "x", "", ruler.ErrLong)
			wantCompile(t, text, ruler.ErrLong)
		}
		for _, text := range []string{long, long[:8007], outs(2000) + long} {
			wantVerify(t, text, ruler.ErrLong, 0)
			wantShrink(t, text, "", ruler.ErrLong)
			wantExec(t, text, "", "", ruler.ErrLong)
			wantExec(t, text, "x", "", ruler.ErrLong)
		}
		for _, text := range []string{long, long[:141], long[:142]} {
			wantExec(t, square, text, "", ruler.ErrLong)
			wantExec(t, "x", text, "", ruler.ErrLong)
			wantRun(t, "a=pt();", text, "", ruler.ErrLong)
			wantRun(t, "x", text, "", ruler.ErrLong)
		}
	}
}

// Work on a text's bytes would lay its statements down somewhere; a look at the length needs no room.
func TestTooLongIsFoundByLength(t *testing.T) {
	long := strings.Repeat("a=mid(b,c);", 1<<20)
	allocated := testing.AllocsPerRun(100, func() {
		ruler.Check(long)
		ruler.Needs(long)
		ruler.Weight(long, 0)
		ruler.Verify(long)
		ruler.Shrink(long)
		ruler.Exec(long, "")
		ruler.Exec(square, long)
		ruler.Run(long, "")
		ruler.Run("a=pt();", long)
		ruler.Compile(long)
	})
	if allocated != 0 {
		t.Errorf("P1: a text that is too long is worked on: %v allocations", allocated)
	}
}

func TestNothingIsKeptBetweenCalls(t *testing.T) {
	texts := strangeTexts()
	first := make([]answers, len(texts))
	for i, text := range texts {
		first[i] = callAll(text, "1,2", 1)
	}
	for i := len(texts) - 1; i >= 0; i-- {
		for n := 0; n < 2; n++ {
			if callAll(texts[i], "1,2", 1) != first[i] {
				t.Errorf("P2: the calls tell another thing of %.80q the second time", texts[i])
			}
		}
	}
	// A name that one source gives is not given in the next.
	wantCheck(t, "a=pt();l=line(a,a);", ruler.OK, 0)
	wantCheck(t, "?on(a,l);", ruler.ErrName, 0)
	wantCheck(t, "a=pt();l=line(a,a);", ruler.OK, 0)
	wantRun(t, "?on(a,l);", "", "", ruler.ErrName)
	// Nor are inputs, or what has been made of them.
	wantRun(t, "a=pt();b=pt();?same(a,b);", "1,2,1,2", "1", ruler.OK)
	wantRun(t, "a=pt();b=pt();?same(a,b);", "1,2,1,3", "0", ruler.OK)
	wantRun(t, "a=pt();b=pt();?same(a,b);", "1,2", "", ruler.ErrInput)
	wantRun(t, "a=pt();b=pt();?same(a,b);", "1,2,1,2", "1", ruler.OK)
	// Nor is a register that one code sets.
	wantVerify(t, makeCode(1, 0, makeStep(con, 0, 1, 0)), ruler.OK, 0)
	wantVerify(t, makeCode(1, 0, makeStep(out, 0, 0, 0)), ruler.ErrCode, 1)
}

func TestErrorsAreConstants(t *testing.T) {
	const (
		ok, long, form, word, count ruler.Errno = ruler.OK, ruler.ErrLong, ruler.ErrForm, ruler.ErrWord, ruler.ErrCount
		name, sort, heavy, code     ruler.Errno = ruler.ErrName, ruler.ErrSort, ruler.ErrHeavy, ruler.ErrCode
		input, big                  ruler.Errno = ruler.ErrInput, ruler.ErrBig
	)
	for i, e := range []ruler.Errno{ok, long, form, word, count, name, sort, heavy, code, input, big} {
		if int(e) != i {
			t.Errorf("the error number %d has the value %d", i, e)
		}
	}
}
