package ruler_test

import (
	"math"
	"strings"
	"testing"

	"ruler/ruler"
)

func wantWeight(t *testing.T, source string, statement int, weight int, fault ruler.Errno) {
	t.Helper()
	w, e := ruler.Weight(source, statement)
	if w != weight || e != fault {
		t.Errorf("P4: Weight(%.320q, %d) = %d, %d, want %d, %d", source, statement, w, e, weight, fault)
	}
}

func wantNeeds(t *testing.T, source string, needs int, fault ruler.Errno) {
	t.Helper()
	n, e := ruler.Needs(source)
	if n != needs || e != fault {
		t.Errorf("P4: Needs(%.320q) = %d, %d, want %d, %d", source, n, e, needs, fault)
	}
}

// Points of the weights 1, 2, 5 (a, b, d) and lines of the weights 2, 6 (l, m), so that each sum tells its parts.
const weighed = "a=pt();b=mid(a,a);l=line(a,a);c=mid(a,b);d=mid(b,c);m=line(a,d);"

func TestWeightOfEachWord(t *testing.T) {
	for k, w := range []int{1, 2, 2, 3, 5, 6} {
		wantWeight(t, weighed, k, w, ruler.OK)
	}
	for _, c := range []struct {
		statement string
		weight    int
	}{
		{"x=pt();", 1}, {"x=mid(b,d);", 7}, {"x=mid(d,d);", 10}, {"x=line(b,d);", 7}, {"x=line(d,b);", 7},
		{"x=par(d,l);", 7}, {"x=par(b,m);", 8}, {"x=perp(d,l);", 7}, {"x=perp(b,m);", 8},
		{"x=meet(l,m);", 8}, {"x=meet(m,m);", 12}, {"x=foot(d,l);", 9}, {"x=foot(b,m);", 14}, {"x=foot(a,m);", 13},
		{"x=mirror(d,l);", 14}, {"x=mirror(b,m);", 16}, {"x=centre(a,b,d);", 32}, {"x=centre(d,d,d);", 60},
		{"?same(d,d);", 0}, {"?col(d,d,d);", 0}, {"?ccw(a,b,d);", 0}, {"?btw(a,b,d);", 0}, {"?con(a,b,c,d);", 0},
		{"?on(a,l);", 0}, {"?pll(l,m);", 0}, {"?prp(l,m);", 0}, {"?cc(l,m,m);", 0},
	} {
		wantWeight(t, weighed+c.statement, 6, c.weight, ruler.OK)
		wantWeight(t, weighed+"?same(a,a);"+c.statement+"y=pt();", 7, c.weight, ruler.OK)
	}
}

func TestWeightOfTheExample(t *testing.T) {
	const source = "a=pt();b=pt();c=pt();d=centre(a,b,c);e=centre(a,b,d);"
	wantWeight(t, source, 3, 12, ruler.OK)
	wantWeight(t, source, 4, 56, ruler.OK)
	wantCheck(t, source, ruler.OK, 0)
	wantCheck(t, source+"f=mid(d,e);", ruler.ErrHeavy, 5)
	wantWeight(t, source+"f=mid(d,e);", 3, 0, ruler.ErrHeavy)
}

// At MaxWeight and just beyond it, for each word whose weight can come there.
func TestMaxWeight(t *testing.T) {
	const ahead = heavyChain + "k=line(e,e);l=line(a,a);h=meet(l,k);m=line(d,d);n=line(b,a);"
	for _, c := range []struct {
		statement string
		weight    int // 0: above MaxWeight
	}{
		{"x=mid(f,f);", 64}, {"x=mid(g,a);", 0}, {"x=mid(a,g);", 0},
		{"x=line(f,f);", 64}, {"x=line(g,a);", 0},
		{"x=par(f,k);", 64}, {"x=par(g,l);", 0}, {"x=perp(f,k);", 64}, {"x=perp(g,l);", 0},
		{"x=meet(k,k);", 64}, {"x=foot(f,m);", 64}, {"x=foot(a,k);", 0}, {"x=foot(b,k);", 0}, {"x=foot(g,l);", 0},
		{"x=mirror(e,m);", 64}, {"x=mirror(h,l);", 0}, {"x=mirror(a,k);", 0},
		{"x=centre(d,c,c);", 64}, {"x=centre(d,d,a);", 0},
	} {
		if c.weight == 0 {
			wantCheck(t, ahead+c.statement, ruler.ErrHeavy, 12)
			wantWeight(t, ahead+c.statement, 12, 0, ruler.ErrHeavy)
			continue
		}
		wantCheck(t, ahead+c.statement, ruler.OK, 0)
		wantWeight(t, ahead+c.statement, 12, c.weight, ruler.OK)
	}
	// Above by just one: a meet of 32 and 33, a foot of 1 and twice 32, and lines one heavier from step to step.
	wantCheck(t, heavyChain+"k=line(e,e);l=line(f,a);x=meet(k,l);", ruler.ErrHeavy, 9)
	wantCheck(t, heavyChain+"k=line(e,e);x=foot(a,k);", ruler.ErrHeavy, 8)
	wantCheck(t, heavyChain+"l=line(f,e);k=par(d,l);m=par(c,k);n=par(b,m);x=par(a,n);y=par(a,x);", ruler.OK, 0)
	wantCheck(t, heavyChain+"l=line(f,e);k=par(d,l);m=par(c,k);n=par(b,m);x=par(a,n);y=par(a,x);z=perp(a,y);", ruler.ErrHeavy, 13)
}

func TestWeightOfNoStatement(t *testing.T) {
	for _, k := range []int{-1, -2, -16, 7, 8, 16, math.MaxInt, math.MinInt, 1 << 32, -1 << 32} {
		wantWeight(t, heavyChain, k, 0, ruler.ErrCount)
		wantWeight(t, "", k, 0, ruler.ErrCount)
	}
	wantWeight(t, "", 0, 0, ruler.ErrCount)
	wantWeight(t, heavyChain, 6, 64, ruler.OK)
	sixteen := "a=pt();" + strings.Repeat("?same(a,a);", 14) + "b=mid(a,a);"
	wantWeight(t, sixteen, 15, 2, ruler.OK)
	wantWeight(t, sixteen, 16, 0, ruler.ErrCount)
}

// wrongSources has a source for each error of Check.
var wrongSources = []struct {
	source string
	fault  ruler.Errno
}{
	{strings.Repeat("a", 301), ruler.ErrLong},
	{"a=pt();b", ruler.ErrForm},
	{"a=pt();b=pts();", ruler.ErrWord},
	{"a=pt();b=pt(a);", ruler.ErrCount},
	{"a=pt();a=pt();", ruler.ErrName},
	{"a=pt();?on(a,a);", ruler.ErrSort},
	{heavyChain + "h=mid(a,g);", ruler.ErrHeavy},
}

func TestErrorsOfWeightAndNeeds(t *testing.T) {
	for _, c := range wrongSources {
		wantNeeds(t, c.source, 0, c.fault)
		for _, k := range []int{0, 1, 7, -1, 99, math.MaxInt, math.MinInt} {
			wantWeight(t, c.source, k, 0, c.fault)
		}
	}
}

func TestNeeds(t *testing.T) {
	wantNeeds(t, "", 0, ruler.OK)
	wantNeeds(t, "a=pt();", 2, ruler.OK)
	wantNeeds(t, "a=pt();?same(a,a);b=mid(a,a);", 2, ruler.OK)
	wantNeeds(t, weighed, 2, ruler.OK)
	wantNeeds(t, "a=pt();b=pt();l=line(a,b);c=pt();?on(c,l);", 6, ruler.OK)
	source := ""
	for k := 0; k < 16; k++ {
		source += string(rune('a'+k)) + "=pt();"
		wantNeeds(t, source, 2*k+2, ruler.OK)
	}
}
