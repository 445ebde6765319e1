package ruler

// between asks that both ways from the second point go along one line, in opposite directions.
func (m *maker) between(a triple, b triple, c triple) byte {
	volume := m.volume(a, b, c)
	straight := m.isNought(volume)
	back := m.way(b, a)
	on := m.way(b, c)
	together := m.productsSum(back.x, on.x, back.y, on.y)
	apart := m.negative(together)
	return m.product(straight, apart)
}

// round answers 0 if some circle or some line has all four; it looks from the first point at the others.
func (m *maker) round(a triple, b triple, c triple, d triple) byte {
	toB := m.way(a, b)
	toC := m.way(a, c)
	toD := m.way(a, d)
	liftedB := m.lifted(toB)
	liftedC := m.lifted(toC)
	liftedD := m.lifted(toD)
	return m.volume(liftedB, liftedC, liftedD)
}

// gap answers 0 just where it is so; ccw and btw are not asked in this way.
func (m *maker) gap(word string, t things) byte {
	switch word {
	case "same":
		w := m.way(t[0], t[1])
		return m.productsSum(w.x, w.x, w.y, w.y)
	case "con":
		return m.round(t[0], t[1], t[2], t[3])
	case "on":
		return m.dot(t[0], t[1])
	case "pll":
		return m.productsDifference(t[0].x, t[1].y, t[0].y, t[1].x)
	case "prp":
		return m.productsSum(t[0].x, t[1].x, t[0].y, t[1].y)
	}
	// What is left is col and cc.
	return m.volume(t[0], t[1], t[2])
}

// ask answers a register that is above 0 just where it is so.
func (m *maker) ask(word string, t things) byte {
	switch word {
	case "ccw":
		return m.volume(t[0], t[1], t[2])
	case "btw":
		return m.between(t[0], t[1], t[2])
	}
	gap := m.gap(word, t)
	return m.isNought(gap)
}
