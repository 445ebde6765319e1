// Package ruler: constructions in the plane, made into steps without division: see DOC.md.
package ruler

// Errno is what a call answers: OK or the reason for a refusal.
type Errno int

const (
	OK       Errno = 0
	ErrLong  Errno = 1  // a string above its bound
	ErrForm  Errno = 2  // no source
	ErrWord  Errno = 3  // a word that is in no table
	ErrCount Errno = 4  // too few arguments, or too many; no such statement
	ErrName  Errno = 5  // a name that is not given yet, or given already
	ErrSort  Errno = 6  // a point for a line, or a line for a point
	ErrHeavy Errno = 7  // a construction that weighs too much
	ErrCode  Errno = 8  // no code
	ErrInput Errno = 9  // no inputs, or too few, or too many
	ErrBig   Errno = 10 // a number of too many digits
)

// Check tells whether a text is a right source (P3).
func Check(source string) (Errno, int) {
	_, fault, place := understand(source)
	return fault, place
}

// Needs tells how many inputs a source needs (P4).
func Needs(source string) (int, Errno) {
	list, fault, _ := understand(source)
	if fault != OK {
		return 0, fault
	}
	inputs := 0
	for k := range list {
		if list[k].word == "pt" {
			inputs += 2
		}
	}
	return inputs, OK
}

// Weight tells the weight of a construction (P4).
func Weight(source string, statement int) (int, Errno) {
	list, fault, _ := understand(source)
	if fault != OK {
		return 0, fault
	}
	if statement < 0 || statement >= len(list) {
		return 0, ErrCount
	}
	return list[statement].weight, OK
}

// Verify tells whether a text is a right code (P5).
func Verify(code string) (Errno, int) {
	_, fault, place := decode(code)
	return fault, place
}

// Exec runs a code (P6).
func Exec(code string, inputs string) (string, Errno) {
	if len(code) > maxCode || len(inputs) > maxInput {
		return "", ErrLong
	}
	p, fault, _ := decode(code)
	if fault != OK {
		return "", fault
	}
	return start(p, inputs)
}

// Shrink leaves out the steps that are not needed (P7).
func Shrink(code string) (string, Errno) {
	p, fault, _ := decode(code)
	if fault != OK {
		return "", fault
	}
	p.steps = keepNeeded(p.steps)
	return joinCode(p), OK
}

// Run tells the report of a source (P8).
func Run(source string, inputs string) (string, Errno) {
	if len(source) > maxSource || len(inputs) > maxInput {
		return "", ErrLong
	}
	list, fault, _ := understand(source)
	if fault != OK {
		return "", fault
	}
	p := translate(list)
	return start(p, inputs)
}

// Compile makes a code of a source (P9).
func Compile(source string) (string, Errno) {
	list, fault, _ := understand(source)
	if fault != OK {
		return "", fault
	}
	p := translate(list)
	return joinCode(p), OK
}
