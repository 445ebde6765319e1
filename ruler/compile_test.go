package ruler_test

import (
	"math/big"
	"slices"
	"strings"
	"testing"

	"ruler/ruler"
)

func wantCompile(t *testing.T, source string, fault ruler.Errno) {
	t.Helper()
	if s, e := ruler.Compile(source); (e != ruler.OK && s != "") || e != fault {
		t.Errorf("P9: Compile(%.300q) tells %.60q, %d, want %d", source, s, e, fault)
	}
}

func TestCompileErrors(t *testing.T) {
	for _, c := range wrongSources {
		wantCompile(t, c.source, c.fault)
	}
	wantCompile(t, strings.Repeat("x", 300), ruler.ErrForm)
	wantCompile(t, strings.Repeat("x", 301), ruler.ErrLong)
	wantCompile(t, strings.Repeat("a=pt();", 1<<20), ruler.ErrLong)
	wantCompile(t, strings.Repeat("a=pt();", 16), ruler.ErrName)
}

func chanceInputs(state *uint32, count int, most int) []int {
	list := make([]int, count)
	for k := range list {
		list[k] = chance(state, 2*most+1) - most
	}
	return list
}

type wordRow struct {
	word, takes string
	gives       byte
}

var constructionRows = []wordRow{
	{"pt", "", 'P'}, {"mid", "PP", 'P'}, {"line", "PP", 'L'}, {"par", "PL", 'L'}, {"perp", "PL", 'L'}, {"meet", "LL", 'P'}, {"foot", "PL", 'P'}, {"mirror", "PL", 'P'}, {"centre", "PPP", 'P'},
}

var questionRows = []wordRow{
	{"same", "PP", 0}, {"col", "PPP", 0}, {"ccw", "PPP", 0}, {"btw", "PPP", 0}, {"con", "PPPP", 0}, {"on", "PL", 0}, {"pll", "LL", 0}, {"prp", "LL", 0}, {"cc", "LLL", 0},
}

// writer makes sources of chance, all of them right ones.
type writer struct {
	source        string
	points, lines string
	statements    int
	apart         bool // whether it seldom names one thing twice in a statement
}

// add adds a statement of the row, if its arguments are there and it is not too heavy.
func (w *writer) add(state *uint32, row wordRow) bool {
	var args []string
	for _, sort := range row.takes {
		names := w.points
		if sort == 'L' {
			names = w.lines
		}
		if names == "" {
			return false
		}
		k := chance(state, len(names))
		name := names[k : k+1]
		// A statement that names one thing twice says little; some are enough.
		if w.apart && slices.Contains(args, name) && chance(state, 4) != 0 {
			return false
		}
		args = append(args, name)
	}
	head, name := "?", ""
	if row.gives != 0 {
		name = string(rune('z' - w.statements))
		head = name + "="
	}
	source := w.source + head + row.word + "(" + strings.Join(args, ",") + ");"
	if e, _ := ruler.Check(source); e != ruler.OK {
		return false
	}
	w.source = source
	w.statements++
	switch row.gives {
	case 'P':
		w.points += name
	case 'L':
		w.lines += name
	}
	return true
}

// chanceSource has some given points, constructions up to the statement number asks, and questions in between and behind.
func chanceSource(state *uint32, given int, asks int) string {
	often := []int{0, 1, 2, 2, 2, 2, 3, 4, 5, 5, 5, 5, 6, 7, 8}
	w := writer{apart: true}
	for w.statements < given {
		w.add(state, constructionRows[0])
	}
	for tries := 0; w.statements < 16 && tries < 500; tries++ {
		row := constructionRows[often[chance(state, len(often))]]
		if w.statements >= asks || chance(state, 6) == 0 {
			row = questionRows[chance(state, len(questionRows))]
		}
		w.add(state, row)
	}
	return w.source
}

// Sources of chance, with inputs so small that points are often one and lines often parallel, and with great ones.
func TestRunAndCodeTellTheTruth(t *testing.T) {
	state := uint32(5)
	told := map[string]int{}
	for n := 0; n < 2500; n++ {
		source := chanceSource(&state, 1+chance(&state, 5), 5+chance(&state, 9))
		code := compiled(t, source)
		needs, _ := ruler.Needs(source)
		for _, most := range []int{1, 2, 4, 99} {
			list := chanceInputs(&state, needs, most)
			report := runByFractions(source, list)
			wantRun(t, source, inputText(list), report, ruler.OK)
			if s, e := ruler.Exec(code, inputText(list)); s != report || e != ruler.OK {
				t.Errorf("P9: the code of %q with %v tells %q, %d, want %q", source, list, s, e, report)
			}
			count(told, source, report)
		}
		if t.Failed() {
			t.Fatal("no more sources are tried")
		}
	}
	for _, row := range questionRows {
		if told[row.word+"0"] < 50 || told[row.word+"1"] < 50 {
			t.Errorf("%s was so %d times, and not so %d times", row.word, told[row.word+"1"], told[row.word+"0"])
		}
	}
	for _, row := range constructionRows {
		if told[row.word] < 300 {
			t.Errorf("%s was made %d times", row.word, told[row.word])
		}
	}
	for _, letter := range "spc" {
		if told[string(letter)] < 100 {
			t.Errorf("%c was told %d times", letter, told[string(letter)])
		}
	}
}

// count counts what a report tells of each word.
func count(told map[string]int, source string, report string) {
	for _, text := range strings.Split(source, ";") {
		word, _, _ := strings.Cut(text, "(")
		if report == "" && strings.HasPrefix(text, "?") {
			return
		}
		if report != "" && strings.Contains("spc", report[:1]) {
			told[report[:1]]++
			return
		}
		if strings.HasPrefix(text, "?") {
			told[word[1:]+report[:1]]++
			report = report[1:]
		} else if text != "" {
			told[word[2:]]++
		}
	}
}

// Each word as often as it can stand: the registers and the steps suffice.
func TestCodesHaveRoom(t *testing.T) {
	state := uint32(9)
	for _, row := range append(append([]wordRow{}, constructionRows...), questionRows...) {
		var w writer
		for _, k := range []int{0, 0, 0, 2, 2} {
			w.add(&state, constructionRows[k])
		}
		early := w
		for w.statements < 16 {
			// The arguments are light ones, so that none is too heavy.
			w.points, w.lines = early.points, early.lines
			if !w.add(&state, row) {
				t.Fatalf("no %s behind %q", row.word, w.source)
			}
		}
		compiled(t, w.source)
	}
}

// bounds answers how many digits the numbers of a code can have, whatever the inputs: each register has a bound,
// and an operation's bound follows from those of what it reads.
func bounds(code string) int {
	most := new(big.Int)
	var registers [128]*big.Int
	for at := 6; at < len(code); at += 4 {
		op, x, y, z := code[at], code[at+1], code[at+2], code[at+3]
		value := new(big.Int)
		switch op {
		case in:
			value.SetInt64(99)
		case con:
			value.SetInt64(int64(y))
		case add, sub:
			value.Add(registers[y], registers[z])
		case mul:
			value.Mul(registers[y], registers[z])
		case sgn:
			value.SetInt64(1)
		default:
			continue
		}
		registers[x] = value
		if value.Cmp(most) > 0 {
			most = value
		}
	}
	return len(most.String())
}

// heavySource makes each thing of the latest ones, and asks about the last, as often as a question can name it.
func heavySource(state *uint32, rows []wordRow) string {
	var w writer
	for k := 0; k < 3; k++ {
		w.add(state, constructionRows[0])
	}
	w.add(state, wordRow{"line", "PP", 'L'})
	for tries := 0; w.statements < 14 && tries < 200; tries++ {
		late := w
		// The latest things are the heaviest.
		late.points = w.points[len(w.points)-1-chance(state, 2):]
		late.lines = w.lines[len(w.lines)-1:]
		row := rows[chance(state, len(rows))]
		if !late.add(state, row) {
			continue
		}
		name := late.source[len(w.source) : len(w.source)+1]
		w.source, w.statements = late.source, late.statements
		if row.gives == 'P' {
			w.points += name
		} else {
			w.lines += name
		}
	}
	point, line := w.points[len(w.points)-1:], w.lines[len(w.lines)-1:]
	return w.source + "?con(" + point + "," + point + "," + point + "," + point + ");?cc(" + line + "," + line + "," + line + ");"
}

// The comment in translate tells how many digits there can be; 8000 are allowed.
func TestNumbersNeverGrowTooGreat(t *testing.T) {
	state := uint32(13)
	const told = 1899
	most := 0
	double := "a=pt();b=mid(a,a);c=mid(b,b);d=mid(c,c);e=mid(d,d);f=mid(e,e);g=mid(f,f);"
	sources := []string{double + "?con(g,g,g,g);", double + "?btw(g,g,g);?same(g,g);?ccw(g,g,g);", three + "d=centre(a,b,c);e=centre(a,b,d);f=mid(a,e);g=mid(b,f);h=mid(c,g);i=mid(a,h);j=mid(a,i);k=mid(a,j);l=mid(a,k);m=mid(a,l);?con(m,m,m,m);"}
	for n := 0; n < 1000; n++ {
		from := chance(&state, len(constructionRows))
		sources = append(sources, heavySource(&state, constructionRows[from:]), heavySource(&state, constructionRows))
	}
	for _, source := range sources {
		digits := bounds(compiled(t, source))
		if digits > most {
			most = digits
		}
		if digits > told {
			t.Fatalf("P9: the numbers of %q can have %d digits", source, digits)
		}
	}
	if most < 1000 {
		t.Errorf("no source was heavy: %d digits at most", most)
	}
}

// Whatever the inputs: wrong ones too.
func TestCodeRefusesTheSameInputs(t *testing.T) {
	sources := []string{"", "a=pt();", "a=pt();l=line(a,a);", "a=pt();b=pt();?same(a,b);", three + "o=centre(a,b,c);"}
	for _, source := range sources {
		code := compiled(t, source)
		for _, inputs := range []string{"", "x", "0", "1,2", "1,-0", "1,2,", "1,2,3", "1,2,3,4", "100,2", "01,2", "1,2,3,4,5,6", strings.Repeat("1", 140), strings.Repeat("1", 141), strings.Repeat("1,", 1<<20)} {
			report, fault := ruler.Run(source, inputs)
			if s, e := ruler.Exec(code, inputs); s != report || e != fault {
				t.Errorf("P9: of %q with %.60q Run tells %q, %d, the code %q, %d", source, inputs, report, fault, s, e)
			}
		}
	}
}
