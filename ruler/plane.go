package ruler

// triple is the registers of a point or a line. A point lies at x/w, y/w, and w is not 0;
// a line has the points X, Y, W for which x X + y Y + w W is 0, and its x and y are not both 0.
// So nothing is ever divided.
//
// No number of a thing is above 297 to the power of its weight, divided by 3. Those of a given point are at most 99.
// If a, b, c (points) and l (a line) stand for the bounds of the arguments, the numbers of mid, line, par, perp and meet
// are at most twice the product of two bounds, of foot 4 a l l, of mirror 12 a a l l, of centre 64 a a a a b b c c:
// no bound stands there more often than the weight counts it, and the thirds in the bounds more than make up for the factor.
type triple struct {
	x, y, w byte
}

// cross answers the line through two points, or the point on two lines: the numbers
// that make up 0 with those of both. Its x and y are both 0 if the points are one,
// its w is 0 if the lines are parallel.
func (m *maker) cross(a triple, b triple) triple {
	x := m.productsDifference(a.y, b.w, a.w, b.y)
	y := m.productsDifference(a.w, b.x, a.x, b.w)
	w := m.productsDifference(a.x, b.y, a.y, b.x)
	return triple{x: x, y: y, w: w}
}

// dot answers 0 if a point is on a line.
func (m *maker) dot(a triple, b triple) byte {
	xy := m.productsSum(a.x, b.x, a.y, b.y)
	w := m.product(a.w, b.w)
	return m.sum(xy, w)
}

// volume answers 0 if some line has three points, or if three lines have a point or a direction in common.
// Of points whose w are all above 0 it is above 0 if one turns to the left.
func (m *maker) volume(a triple, b triple, c triple) byte {
	t := m.cross(a, b)
	return m.dot(t, c)
}

func (m *maker) given() triple {
	x := m.input()
	y := m.input()
	w := m.constant(1)
	return triple{x: x, y: y, w: w}
}

func (m *maker) middle(a triple, b triple) triple {
	x := m.productsSum(a.x, b.w, b.x, a.w)
	y := m.productsSum(a.y, b.w, b.y, a.w)
	half := m.product(a.w, b.w)
	w := m.sum(half, half)
	return triple{x: x, y: y, w: w}
}

// parallel looks only at the direction of the line, its x and y.
func (m *maker) parallel(p triple, l triple) triple {
	x := m.product(l.x, p.w)
	y := m.product(l.y, p.w)
	through := m.productsSum(l.x, p.x, l.y, p.y)
	w := m.negative(through)
	return triple{x: x, y: y, w: w}
}

func (m *maker) upright(p triple, l triple) triple {
	y := m.negative(l.x)
	turned := triple{x: l.y, y: y, w: l.w}
	return m.parallel(p, turned)
}

func (m *maker) foot(p triple, l triple) triple {
	across := m.upright(p, l)
	return m.cross(across, l)
}

// mirror goes from the point to its foot twice.
func (m *maker) mirror(p triple, l triple) triple {
	f := m.foot(p, l)
	twoX := m.sum(f.x, f.x)
	twoY := m.sum(f.y, f.y)
	x := m.productsDifference(twoX, p.w, p.x, f.w)
	y := m.productsDifference(twoY, p.w, p.y, f.w)
	w := m.product(f.w, p.w)
	return triple{x: x, y: y, w: w}
}

// halver answers the line of all points that are equally far from two; all its numbers are 0 if the two are one.
func (m *maker) halver(a triple, b triple) triple {
	middle := m.middle(a, b)
	through := m.cross(a, b)
	return m.upright(middle, through)
}

// centre has the w 0 if the three points lie on one line: then the two halvers are parallel, or all 0.
func (m *maker) centre(a triple, b triple, c triple) triple {
	first := m.halver(a, b)
	second := m.halver(a, c)
	return m.cross(first, second)
}

// way answers how far it is from one point to another, as the point at which it would end if it began at 0, 0.
func (m *maker) way(from triple, to triple) triple {
	x := m.productsDifference(to.x, from.w, from.x, to.w)
	y := m.productsDifference(to.y, from.w, from.y, to.w)
	w := m.product(from.w, to.w)
	return triple{x: x, y: y, w: w}
}

// lifted answers three numbers of a point that make up 0 with others, the same for all points
// of a circle or a line through 0, 0: its x, its y, and the sum of their squares.
func (m *maker) lifted(p triple) triple {
	x := m.product(p.x, p.w)
	y := m.product(p.y, p.w)
	squares := m.productsSum(p.x, p.x, p.y, p.y)
	return triple{x: x, y: y, w: squares}
}
