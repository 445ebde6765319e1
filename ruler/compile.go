package ruler

// home answers the registers that keep what a statement gives.
func home(statement int) triple {
	first := byte(partsKept * statement)
	return triple{x: first, y: first + 1, w: first + 2}
}

// things are what the arguments of a statement stand for.
type things [maxArgs]triple

func argumentsOf(list []sentence, s sentence) things {
	var t things
	for i, name := range s.args {
		k := giver(list, name)
		if k != noGiver && i < len(t) {
			t[i] = home(k)
		}
	}
	return t
}

func (m *maker) construct(word string, t things) triple {
	switch word {
	case "pt":
		return m.given()
	case "mid":
		return m.middle(t[0], t[1])
	case "par":
		return m.parallel(t[0], t[1])
	case "perp":
		return m.upright(t[0], t[1])
	case "foot":
		return m.foot(t[0], t[1])
	case "mirror":
		return m.mirror(t[0], t[1])
	case "centre":
		return m.centre(t[0], t[1], t[2])
	}
	// What is left is line and meet.
	return m.cross(t[0], t[1])
}

// guard ends the report where a construction cannot be made.
func (m *maker) guard(word string, made triple, statement int) {
	switch word {
	case "line":
		squares := m.productsSum(made.x, made.x, made.y, made.y)
		m.add(opStop, squares, stopSame, byte(statement))
	case "meet":
		m.add(opStop, made.w, stopParallel, byte(statement))
	case "centre":
		m.add(opStop, made.w, stopStraight, byte(statement))
	}
}

// factorFor answers what a thing is multiplied by before it is kept: a point by the sign of its w,
// so that every point that is kept has a w above 0, and questions need not look at its sign.
func (m *maker) factorFor(word string, made triple) byte {
	if sortGiven(word) == sortPoint {
		return m.sign(made.w)
	}
	return m.constant(1)
}

// keep brings a thing home from the spare registers, which the next statement takes again.
func (m *maker) keep(word string, made triple, statement int) {
	place := home(statement)
	factor := m.factorFor(word, made)
	m.add(opMul, place.x, made.x, factor)
	m.add(opMul, place.y, made.y, factor)
	m.add(opMul, place.w, made.w, factor)
}

// translate makes the code of a right source. Its numbers stay far below 8000 digits:
// the greatest are those of con, a product of twelve numbers of at most 158 digits, times 192.
func translate(list []sentence) program {
	var m maker
	for k, s := range list {
		m.spare = firstSpare
		t := argumentsOf(list, s)
		if isQuestion(s) {
			answer := m.ask(s.word, t)
			m.add(opOut, answer, 0, 0)
			continue
		}
		made := m.construct(s.word, t)
		m.guard(s.word, made, k)
		m.keep(s.word, made, k)
	}
	return program{regs: maxRegs, ins: m.inputs, steps: m.steps}
}
