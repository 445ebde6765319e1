package ruler_test

import (
	"strconv"
	"strings"
	"testing"

	"ruler/ruler"
)

func wantRun(t *testing.T, source string, inputs string, report string, fault ruler.Errno) {
	t.Helper()
	if s, e := ruler.Run(source, inputs); s != report || e != fault {
		t.Errorf("P8: Run(%.300q, %.140q) tells %q, %d, want %q, %d", source, inputs, s, e, report, fault)
	}
}

// wantBoth tests what a right source must tell, by Run and by its code.
func wantBoth(t *testing.T, source string, inputs string, report string) {
	t.Helper()
	wantRun(t, source, inputs, report, ruler.OK)
	if s, e := ruler.Exec(compiled(t, source), inputs); s != report || e != ruler.OK {
		t.Errorf("P9: the code of %q with %q tells %q, %d, want %q", source, inputs, s, e, report)
	}
}

// compiled tests that a right source's code is right.
func compiled(t *testing.T, source string) string {
	t.Helper()
	code, fault := ruler.Compile(source)
	if fault != ruler.OK {
		t.Fatalf("P9: Compile(%q) tells the error %d", source, fault)
	}
	if e, at := ruler.Verify(code); e != ruler.OK {
		t.Fatalf("P9: the code of %q is not right: Verify tells %d, %d", source, e, at)
	}
	needs, _ := ruler.Needs(source)
	if int(code[3]) != needs {
		t.Fatalf("P9: the code of %q has INS %d, not %d", source, code[3], needs)
	}
	return code
}

func inputText(list []int) string {
	var texts []string
	for _, n := range list {
		texts = append(texts, strconv.Itoa(n))
	}
	return strings.Join(texts, ",")
}

const (
	three = "a=pt();b=pt();c=pt();"
	four  = three + "d=pt();"
)

func TestRunExamples(t *testing.T) {
	turns := three + "?col(a,b,c);?ccw(a,b,c);?btw(a,b,c);"
	same := "a=pt();b=pt();?same(a,b);l=line(a,b);?on(a,l);"
	meet := four + "l=line(a,b);m=line(c,d);e=meet(l,m);?same(e,a);"
	centre := three + "o=centre(a,b,c);d=pt();?same(o,d);"
	foot := "a=pt();b=pt();p=pt();l=line(a,b);f=foot(p,l);g=mirror(p,l);q=pt();?same(f,q);?same(g,q);"
	con := four + "?con(a,b,c,d);"
	for _, c := range []struct{ source, inputs, report string }{
		{turns, "0,0,1,1,2,2", "101"}, {turns, "0,0,1,0,0,1", "010"}, {turns, "0,0,0,0,0,0", "100"},
		{same, "3,4,3,4", "1s3"}, {same, "3,4,3,5", "01"},
		{meet, "0,0,1,2,5,5,6,7", "p6"}, {meet, "0,0,1,2,0,0,3,1", "1"}, {meet, "0,0,1,2,5,0,3,1", "0"},
		{centre, "0,0,4,0,0,2,2,1", "1"}, {centre, "0,0,1,1,-2,-2,0,0", "c3"},
		{foot, "0,0,1,1,2,0,1,1", "10"}, {foot, "0,0,1,1,2,0,0,2", "01"},
		{con, "1,0,0,1,-1,0,0,-1", "1"}, {con, "0,0,1,0,2,0,5,0", "1"}, {con, "1,0,0,1,-1,0,0,-2", "0"}, {con, "1,0,1,0,-1,5,0,-2", "1"},
	} {
		wantBoth(t, c.source, c.inputs, c.report)
	}
	wantRun(t, turns, "0,0,1,0,0", "", ruler.ErrInput)
}

func TestRunEdges(t *testing.T) {
	lines := four + "l=line(a,b);m=line(c,d);?pll(l,m);?prp(l,m);?cc(l,l,m);?cc(l,m,m);e=meet(l,m);"
	third := four + "e=pt();l=line(a,b);m=line(c,d);n=line(a,e);?cc(l,m,n);?cc(n,m,l);?cc(m,l,n);?cc(l,m,l);"
	for _, c := range []struct{ source, inputs, report string }{
		{"", "", ""}, {"a=pt();", "-99,99", ""},
		// Parallel, the same, at right angles, upright and level.
		{lines, "0,0,2,4,1,0,2,2", "1011p10"}, {lines, "0,0,2,4,3,6,-1,-2", "1011p10"}, {lines, "0,0,2,4,0,0,-4,2", "0111"}, {lines, "0,0,0,4,7,0,3,0", "0111"}, {lines, "0,0,0,4,7,0,7,1", "1011p10"}, {lines, "1,1,1,1,7,0,7,1", "s4"}, {lines, "1,1,1,2,7,0,7,0", "s5"}, {lines, "5,0,-5,0,2,7,3,7", "1011p10"},
		// Two of three are parallel; two are the same; all three are parallel.
		{third, "0,0,1,0,0,1,1,1,0,1", "0001"}, {third, "0,0,1,0,5,0,7,0,0,1", "1111"}, {third, "0,0,1,0,0,1,1,1,5,0", "1111"}, {third, "0,0,1,0,0,5,5,-5,-7,0", "1111"}, {third, "2,2,3,4,0,0,9,9,-5,7", "1111"},
		// A point of its own line is its own foot and mirror image.
		{"a=pt();b=pt();l=line(a,b);f=foot(a,l);g=mirror(b,l);m=par(a,l);n=perp(b,l);?same(a,f);?same(b,g);?pll(l,m);?on(b,m);?prp(m,n);?on(b,n);?on(a,n);", "-7,3,2,5", "1111110"},
		// A middle of one point twice; lines are drawn through middles, which have halves.
		{"a=pt();b=mid(a,a);?same(a,b);?btw(a,b,a);?col(a,b,a);?ccw(a,b,a);?con(a,b,a,b);l=line(a,b);", "4,-9", "10101s7"},
		{"a=pt();b=pt();m=mid(a,b);?btw(a,m,b);?btw(b,m,a);?btw(m,a,b);?btw(a,b,m);?btw(a,a,b);?btw(a,b,b);?btw(a,b,a);", "0,0,1,0", "1100000"}, {"a=pt();b=pt();m=mid(a,b);?btw(a,m,b);?btw(b,m,a);?btw(m,a,b);?btw(a,b,m);?btw(a,a,b);?btw(a,b,b);?btw(a,b,a);", "7,-2,7,-1", "1100000"}, {"a=pt();b=pt();m=mid(a,b);?btw(a,m,b);?same(a,m);", "7,-2,7,-2", "01"},
		// Not on the way though its x, or its y, is between.
		{three + "?btw(a,b,c);?btw(b,a,c);?btw(a,c,b);", "0,0,1,5,2,0", "000"}, {three + "?btw(a,b,c);?btw(b,a,c);?btw(a,c,b);", "0,0,0,5,0,9", "100"}, {three + "?btw(a,b,c);?btw(b,a,c);?btw(a,c,b);", "0,0,0,0,0,0", "000"},
		// Turning left at a point whose place has a negative number below the line, if it is worked out one way.
		{four + "l=line(a,b);m=line(c,d);e=meet(l,m);f=meet(m,l);?same(e,f);?ccw(e,a,c);?ccw(f,a,c);?btw(a,e,b);?btw(a,f,b);?btw(e,a,f);", "0,0,4,4,0,4,4,0", "100110"}, {four + "l=line(a,b);m=line(c,d);e=meet(l,m);f=meet(m,l);?same(e,f);?ccw(e,a,c);?ccw(f,a,c);?btw(a,e,b);?btw(a,f,b);?btw(e,a,f);", "0,0,4,4,4,0,0,4", "111110"},
		{three + "o=centre(a,b,c);p=centre(a,c,b);?same(o,p);?ccw(o,a,b);?ccw(p,a,b);?ccw(a,o,p);", "0,0,6,0,0,8", "1110"}, {three + "o=centre(a,b,c);p=centre(a,c,b);?same(o,p);?ccw(o,a,b);?ccw(p,a,b);?ccw(a,o,p);", "0,0,0,8,6,0", "1000"},
		// The report ends with the first that cannot be made, whatever could not be made behind it.
		{three + "?col(a,b,c);o=centre(a,b,c);l=line(a,a);?col(a,b,c);", "0,0,1,1,2,2", "1c4"}, {three + "?col(a,b,c);o=centre(a,b,c);l=line(a,a);?col(a,b,c);", "0,0,1,1,2,3", "0s5"},
		{"a=pt();" + strings.Repeat("?same(a,a);", 14) + "l=line(a,a);", "1,1", "11111111111111s15"}, {three + strings.Repeat("?same(a,b);", 12) + "o=centre(a,b,c);", "1,1,2,2,3,3", "000000000000c15"},
	} {
		wantBoth(t, c.source, c.inputs, c.report)
		var list []int
		for _, text := range strings.Split(c.inputs, ",") {
			n, _ := strconv.Atoi(text)
			list = append(list, n)
		}
		if told := runByFractions(c.source, list); told != c.report {
			t.Errorf("of %q with %q the fractions tell %q, not %q", c.source, c.inputs, told, c.report)
		}
	}
}

func TestRunErrorsInTheirOrder(t *testing.T) {
	long := strings.Repeat("1,", 71)[:141]
	for _, c := range []struct {
		source, inputs string
		fault          ruler.Errno
	}{
		{strings.Repeat("x", 301), "", ruler.ErrLong}, {strings.Repeat("x", 301), long, ruler.ErrLong}, {strings.Repeat("x", 1<<22), "x", ruler.ErrLong}, {"x", long, ruler.ErrLong}, {"a=pt();", long, ruler.ErrLong}, {"", strings.Repeat("x", 1<<22), ruler.ErrLong}, {heavyChain, long, ruler.ErrLong},
		{strings.Repeat("x", 300), "", ruler.ErrForm}, {"a=pt()", "1,2", ruler.ErrForm}, {"x", long[:140], ruler.ErrForm},
		{"", "0", ruler.ErrInput}, {"", ",", ruler.ErrInput}, {"a=pt();", "", ruler.ErrInput}, {"a=pt();", "1", ruler.ErrInput}, {"a=pt();", "1,2,3", ruler.ErrInput}, {"a=pt();", long[:140], ruler.ErrInput}, {"a=pt();", long[:139], ruler.ErrInput}, {"a=pt();b=pt();", "1,2", ruler.ErrInput}, {"a=pt();b=mid(a,a);", "1,2,3,4", ruler.ErrInput},
		{"a=pt();", "1,2,", ruler.ErrInput}, {"a=pt();", ",1,2", ruler.ErrInput}, {"a=pt();", "1,-0", ruler.ErrInput}, {"a=pt();", "01,2", ruler.ErrInput}, {"a=pt();", "1,100", ruler.ErrInput}, {"a=pt();", "1, 2", ruler.ErrInput}, {"a=pt();", "+1,2", ruler.ErrInput}, {"a=pt();", "1;2", ruler.ErrInput},
		// Inputs are looked at ahead of what cannot be made.
		{"a=pt();l=line(a,a);b=pt();", "1,2", ruler.ErrInput}, {"a=pt();l=line(a,a);b=pt();", "1,2,3,x", ruler.ErrInput},
	} {
		wantRun(t, c.source, c.inputs, "", c.fault)
	}
	wantRun(t, "a=pt();l=line(a,a);b=pt();", "1,2,3,4", "s1", ruler.OK)
	for _, c := range wrongSources {
		for _, inputs := range []string{"", "x", "1,2", long[:140]} {
			wantRun(t, c.source, inputs, "", c.fault)
		}
		wantRun(t, c.source, long, "", ruler.ErrLong)
	}
}

// What is so in every plane: each source tells these answers wherever all in it can be made.
func TestRunTheorems(t *testing.T) {
	state := uint32(11)
	for _, c := range []struct{ source, report string }{
		// The circle through the middles of the sides has the feet of the heights.
		{three + "d=mid(b,c);e=mid(c,a);f=mid(a,b);l=line(b,c);m=line(c,a);g=foot(a,l);h=foot(b,m);?con(d,e,f,g);?con(d,e,f,h);?con(g,d,h,e);", "111"},
		// The heights meet in one point; its mirror image in a side lies on the circle.
		{three + "l=line(b,c);m=line(c,a);n=line(a,b);o=perp(a,l);p=perp(b,m);q=perp(c,n);?cc(o,p,q);h=meet(o,p);i=mirror(h,l);?con(a,b,c,i);?on(h,q);", "111"},
		// The centre, the point where the medians meet and the one where the heights meet lie on one line.
		{three + "d=mid(b,c);e=mid(a,c);o=centre(a,b,c);l=line(a,d);m=line(b,e);g=meet(l,m);i=line(b,c);j=line(a,c);p=perp(a,i);q=perp(b,j);h=meet(p,q);?col(o,g,h);", "1"},
		// The middle between a point and its mirror image is the foot, and the mirror's mirror is the point.
		{three + "l=line(a,b);f=foot(c,l);g=mirror(c,l);m=mid(c,g);?same(m,f);h=mirror(g,l);?same(h,c);?on(f,l);n=perp(c,l);?on(g,n);?con(c,g,f,h);", "11111"},
		// Pappus: six points by turns on two lines, three on each.
		{four + "e=mid(a,b);f=mid(c,d);g=line(a,d);h=line(b,c);i=meet(g,h);j=line(a,f);k=line(e,c);l=meet(j,k);m=line(b,f);n=line(e,d);o=meet(m,n);?col(i,l,o);", "1"},
		// The circle over a and c has the feet of right angles; its centre is halfway.
		{four + "l=line(a,b);e=foot(c,l);m=line(c,d);f=foot(a,m);o=mid(a,c);?con(a,c,e,f);p=centre(a,c,e);?same(o,p);", "11"},
		// Varignon: the middles of four sides are a parallelogram.
		{four + "e=mid(a,b);f=mid(b,c);g=mid(c,d);h=mid(d,a);k=mid(e,g);l=mid(f,h);?same(k,l);m=line(e,f);n=line(g,h);?pll(m,n);o=par(e,n);?on(f,o);", "111"},
	} {
		seen := 0
		for n := 0; n < 60; n++ {
			needs, _ := ruler.Needs(c.source)
			list := chanceInputs(&state, needs, []int{3, 10, 99}[n%3])
			report := runByFractions(c.source, list)
			wantBoth(t, c.source, inputText(list), report)
			if strings.ContainsAny(report, "spc") {
				continue
			}
			seen++
			if report != c.report {
				t.Errorf("of %q with %v the fractions tell %q, not %q", c.source, list, report, c.report)
			}
		}
		if seen < 20 {
			t.Errorf("all in %q could be made only %d times", c.source, seen)
		}
	}
}
