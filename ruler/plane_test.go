package ruler_test

import (
	"math/big"
	"strconv"
	"strings"
)

// Here the report is worked out a second way: with fractions, and with lines that are a point and a direction.

type pair struct{ x, y *big.Rat }

// thing is a point (at) or a line (through at, along dir).
type thing struct{ at, dir pair }

func ratio(a, b *big.Rat) *big.Rat { return new(big.Rat).Quo(a, b) }
func times(a, b *big.Rat) *big.Rat { return new(big.Rat).Mul(a, b) }
func plus(a, b *big.Rat) *big.Rat  { return new(big.Rat).Add(a, b) }
func minus(a, b *big.Rat) *big.Rat { return new(big.Rat).Sub(a, b) }
func from(a, b pair) pair          { return pair{minus(b.x, a.x), minus(b.y, a.y)} }
func equal(a, b pair) bool         { return a.x.Cmp(b.x) == 0 && a.y.Cmp(b.y) == 0 }
func inner(a, b pair) *big.Rat     { return plus(times(a.x, b.x), times(a.y, b.y)) }
func outer(a, b pair) *big.Rat     { return minus(times(a.x, b.y), times(a.y, b.x)) }
func along(a, d pair, t *big.Rat) pair {
	return pair{plus(a.x, times(t, d.x)), plus(a.y, times(t, d.y))}
}

func straight(a, b, c pair) bool { return outer(from(a, b), from(a, c)).Sign() == 0 }
func isOn(p pair, l thing) bool  { return outer(l.dir, from(l.at, p)).Sign() == 0 }
func sameWay(l, m thing) bool    { return outer(l.dir, m.dir).Sign() == 0 }

func meetOf(l, m thing) pair {
	return along(l.at, l.dir, ratio(outer(from(l.at, m.at), m.dir), outer(l.dir, m.dir)))
}

func footOf(p pair, l thing) pair {
	return along(l.at, l.dir, ratio(inner(from(l.at, p), l.dir), inner(l.dir, l.dir)))
}

// centreOf solves 2 u p = p p and 2 u q = q q, where a is the origin.
func centreOf(a, b, c pair) pair {
	p, q := from(a, b), from(a, c)
	pp, qq := inner(p, p), inner(q, q)
	d := times(big.NewRat(2, 1), outer(p, q))
	u := ratio(minus(times(pp, q.y), times(qq, p.y)), d)
	v := ratio(minus(times(p.x, qq), times(q.x, pp)), d)
	return pair{plus(a.x, u), plus(a.y, v)}
}

func isBetween(a, b, c pair) bool {
	way := from(a, c)
	part := from(a, b)
	t := new(big.Rat)
	switch {
	case way.x.Sign() != 0:
		t = ratio(part.x, way.x)
	case way.y.Sign() != 0:
		t = ratio(part.y, way.y)
	}
	return equal(b, along(a, way, t)) && t.Sign() > 0 && t.Cmp(big.NewRat(1, 1)) < 0
}

// onOneRound looks for three points that have a centre; if there are none, all four lie on one line.
func onOneRound(p [4]pair) bool {
	for k := range p {
		a, b, c, d := p[k], p[(k+1)%4], p[(k+2)%4], p[(k+3)%4]
		if !straight(a, b, c) {
			o := centreOf(a, b, c)
			return inner(from(o, a), from(o, a)).Cmp(inner(from(o, d), from(o, d))) == 0
		}
	}
	return true
}

func concur(l, m, n thing) bool {
	switch {
	case !sameWay(l, m):
		return isOn(meetOf(l, m), n)
	case sameWay(l, n):
		return true
	}
	return isOn(l.at, m)
}

func answerByFractions(word string, a []thing) bool {
	switch word {
	case "same":
		return equal(a[0].at, a[1].at)
	case "col":
		return straight(a[0].at, a[1].at, a[2].at)
	case "ccw":
		ab, ac := from(a[0].at, a[1].at), from(a[0].at, a[2].at)
		return times(ab.x, ac.y).Cmp(times(ab.y, ac.x)) > 0
	case "btw":
		return isBetween(a[0].at, a[1].at, a[2].at)
	case "con":
		return onOneRound([4]pair{a[0].at, a[1].at, a[2].at, a[3].at})
	case "on":
		return isOn(a[0].at, a[1])
	case "pll":
		return sameWay(a[0], a[1])
	case "prp":
		return inner(a[0].dir, a[1].dir).Sign() == 0
	}
	return concur(a[0], a[1], a[2])
}

// madeByFractions answers a letter if it cannot be made.
func madeByFractions(word string, a []thing) (thing, string) {
	half := big.NewRat(1, 2)
	switch word {
	case "mid":
		return thing{at: along(a[0].at, from(a[0].at, a[1].at), half)}, ""
	case "line":
		if equal(a[0].at, a[1].at) {
			return thing{}, "s"
		}
		return thing{a[0].at, from(a[0].at, a[1].at)}, ""
	case "par":
		return thing{a[0].at, a[1].dir}, ""
	case "perp":
		return thing{a[0].at, pair{new(big.Rat).Neg(a[1].dir.y), a[1].dir.x}}, ""
	case "meet":
		if sameWay(a[0], a[1]) {
			return thing{}, "p"
		}
		return thing{at: meetOf(a[0], a[1])}, ""
	case "foot":
		return thing{at: footOf(a[0].at, a[1])}, ""
	case "mirror":
		f := footOf(a[0].at, a[1])
		return thing{at: along(f, from(a[0].at, f), big.NewRat(1, 1))}, ""
	}
	if straight(a[0].at, a[1].at, a[2].at) {
		return thing{}, "c"
	}
	return thing{at: centreOf(a[0].at, a[1].at, a[2].at)}, ""
}

// runByFractions is what Run must tell of a right source with right inputs.
func runByFractions(source string, inputs []int) string {
	report := ""
	named := map[string]thing{}
	for k, text := range strings.Split(strings.TrimSuffix(source, ";"), ";") {
		if text == "" {
			break
		}
		name, rest, _ := strings.Cut(text, "=")
		question := strings.HasPrefix(text, "?")
		if question {
			rest = text[1:]
		}
		word, list, _ := strings.Cut(strings.TrimSuffix(rest, ")"), "(")
		if word == "pt" {
			named[name] = thing{at: pair{big.NewRat(int64(inputs[0]), 1), big.NewRat(int64(inputs[1]), 1)}}
			inputs = inputs[2:]
			continue
		}
		var args []thing
		for _, arg := range strings.Split(list, ",") {
			args = append(args, named[arg])
		}
		if question {
			report += map[bool]string{true: "1", false: "0"}[answerByFractions(word, args)]
			continue
		}
		made, letter := madeByFractions(word, args)
		if letter != "" {
			return report + letter + strconv.Itoa(k)
		}
		named[name] = made
	}
	return report
}
