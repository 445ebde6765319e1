package ruler_test

import (
	"fmt"
	"strings"
	"testing"

	"ruler/ruler"
)

func wantCheck(t *testing.T, text string, fault ruler.Errno, place int) {
	t.Helper()
	e, at := ruler.Check(text)
	if e != fault || at != place {
		t.Errorf("P3: Check(%.320q) = %d, %d, want %d, %d", text, e, at, fault, place)
	}
}

// The document's two tables: what each word takes, and what it gives.
var constructions = map[string]string{
	"pt": "", "mid": "PP", "line": "PP", "par": "PL", "perp": "PL", "meet": "LL", "foot": "PL", "mirror": "PL", "centre": "PPP",
}

var questions = map[string]string{
	"same": "PP", "col": "PPP", "ccw": "PPP", "btw": "PPP", "con": "PPPP", "on": "PL", "pll": "LL", "prp": "LL", "cc": "LLL",
}

var gives = map[string]string{
	"pt": "P", "mid": "P", "line": "L", "par": "L", "perp": "L", "meet": "P", "foot": "P", "mirror": "P", "centre": "P",
}

// words are those of both tables, and some that are near to them.
func words() []string {
	list := []string{"p", "ptt", "mi", "mids", "lines", "lin", "cen", "center", "centr", "sam", "c", "o", "zzzzzz", "a"}
	for word := range constructions {
		list = append(list, word)
	}
	for word := range questions {
		list = append(list, word)
	}
	return list
}

// argumentLists are all lists of none to four of the names.
func argumentLists(names string) []string {
	lists := []string{""}
	latest := lists
	for n := 0; n < 4; n++ {
		var longer []string
		for _, list := range latest {
			for i := range names {
				longer = append(longer, list+names[i:i+1])
			}
		}
		lists = append(lists, longer...)
		latest = longer
	}
	return lists
}

// statementError is the error of a statement behind a source that has given the point a and the line l, neither heavy.
func statementError(head string, word string, args string) ruler.Errno {
	table := constructions
	if head == "?" {
		table = questions
	}
	sorts, known := table[word]
	switch {
	case !known:
		return ruler.ErrWord
	case len(args) != len(sorts):
		return ruler.ErrCount
	case strings.Trim(args, "al") != "" || head == "a=" || head == "l=":
		return ruler.ErrName
	case strings.NewReplacer("a", "P", "l", "L").Replace(args) != sorts:
		return ruler.ErrSort
	}
	return ruler.OK
}

func TestEveryStatementBehindAPointAndALine(t *testing.T) {
	const ahead = "a=pt();l=line(a,a);"
	for _, word := range words() {
		for _, args := range argumentLists("alx") {
			for _, head := range []string{"?", "a=", "l=", "x=", "y="} {
				text := ahead + head + word + "(" + strings.Join(strings.Split(args, ""), ",") + ");"
				fault := statementError(head, word, args)
				place := 2
				if fault == ruler.OK {
					place = 0
				}
				wantCheck(t, text, fault, place)
			}
		}
	}
}

func TestSortsThatWordsGive(t *testing.T) {
	for word, sorts := range constructions {
		args := strings.Join(strings.Split(strings.NewReplacer("P", "a", "L", "l").Replace(sorts), ""), ",")
		text := "a=pt();l=line(a,a);x=" + word + "(" + args + ");"
		asPoint, asLine := ruler.OK, ruler.ErrSort
		if gives[word] == "L" {
			asPoint, asLine = asLine, asPoint
		}
		if e, _ := ruler.Check(text + "?same(x,x);"); e != asPoint {
			t.Errorf("P3: what %s gives, as a point: %d, want %d", word, e, asPoint)
		}
		if e, _ := ruler.Check(text + "?pll(x,x);"); e != asLine {
			t.Errorf("P3: what %s gives, as a line: %d, want %d", word, e, asLine)
		}
	}
}

func TestExamplesOfCheck(t *testing.T) {
	wantCheck(t, "", ruler.OK, 0)
	wantCheck(t, "a=pt();b=pt();l=line(a,b);m=mid(a,b);?on(m,l);", ruler.OK, 0)
	wantCheck(t, "a=pt();b=pt();l=line(a,b);?on(a,l);", ruler.OK, 0)
	wantCheck(t, "a=pt()", ruler.ErrForm, 6)
	wantCheck(t, "a=pt(;", ruler.ErrForm, 5)
	wantCheck(t, "a=pt();b=line(a,a,a);", ruler.ErrCount, 1)
	wantCheck(t, "a=line(b,c);", ruler.ErrName, 0)
	wantCheck(t, "a=pt();a=pt();", ruler.ErrName, 1)
	wantCheck(t, "a=pt();?on(a,a);", ruler.ErrSort, 1)
	wantCheck(t, "a=same();", ruler.ErrWord, 0)
}

func TestEveryNameCanBeGivenOnce(t *testing.T) {
	for name := 'a'; name <= 'z'; name++ {
		once := fmt.Sprintf("%c=pt();", name)
		wantCheck(t, once+fmt.Sprintf("?same(%c,%c);", name, name), ruler.OK, 0)
		wantCheck(t, once+once, ruler.ErrName, 1)
		for other := 'a'; other <= 'z'; other++ {
			if other != name {
				wantCheck(t, once+fmt.Sprintf("?same(%c,%c);", name, other), ruler.ErrName, 1)
			}
		}
	}
}

func TestNamesOfLaterStatements(t *testing.T) {
	wantCheck(t, "?same(a,a);a=pt();", ruler.ErrName, 0)
	wantCheck(t, "a=pt();b=mid(a,b);", ruler.ErrName, 1)
	wantCheck(t, "a=pt();b=mid(a,c);c=pt();", ruler.ErrName, 1)
	wantCheck(t, "a=pt();?same(a,b);b=pt();", ruler.ErrName, 1)
}

// heavyChain gives the points a to g the weights 1, 2, 4 .. 64.
const heavyChain = "a=pt();b=mid(a,a);c=mid(b,b);d=mid(c,c);e=mid(d,d);f=mid(e,e);g=mid(f,f);"

func TestOrderOfErrorsWithinAStatement(t *testing.T) {
	const ahead = heavyChain + "l=line(e,e);"
	wantCheck(t, ahead+"a=no(z);", ruler.ErrWord, 8)         // and ErrName, and no count would fit
	wantCheck(t, ahead+"a=mid(z);", ruler.ErrCount, 8)       // and ErrName, twice
	wantCheck(t, ahead+"x=mid(l,l,l);", ruler.ErrCount, 8)   // and ErrSort
	wantCheck(t, ahead+"x=mid(l,z);", ruler.ErrName, 8)      // and ErrSort ahead of the name
	wantCheck(t, ahead+"l=mid(a,l);", ruler.ErrName, 8)      // and ErrSort
	wantCheck(t, ahead+"a=mid(g,g);", ruler.ErrName, 8)      // and ErrHeavy
	wantCheck(t, ahead+"x=foot(l,g);", ruler.ErrSort, 8)     // and ErrHeavy
	wantCheck(t, ahead+"x=mid(g,l);", ruler.ErrSort, 8)      // and ErrHeavy
	wantCheck(t, ahead+"x=mid(g,g);", ruler.ErrHeavy, 8)     // alone
	wantCheck(t, ahead+"?con(g,g,g,g);", ruler.OK, 0)        // a question weighs nothing
	wantCheck(t, ahead+"?no(z,z);", ruler.ErrWord, 8)        // and ErrName
	wantCheck(t, ahead+"?same(z,z,z);", ruler.ErrCount, 8)   // and ErrName
	wantCheck(t, ahead+"?same(l,l,l);", ruler.ErrCount, 8)   // and ErrSort
	wantCheck(t, ahead+"?con(l,g,g,z);", ruler.ErrName, 8)   // and ErrSort
	wantCheck(t, ahead+"?con(g,g,g,l);", ruler.ErrSort, 8)   // at the last argument
	wantCheck(t, ahead+"x=centre(g,g,l);", ruler.ErrSort, 8) // and ErrHeavy
}

func TestOrderOfErrorsBetweenStatements(t *testing.T) {
	const ahead = heavyChain + "l=line(e,e);"
	wrong := []struct {
		text  string
		fault ruler.Errno
	}{
		{"x=no();", ruler.ErrWord}, {"x=mid(a);", ruler.ErrCount}, {"x=mid(a,z);", ruler.ErrName},
		{"x=mid(a,l);", ruler.ErrSort}, {"x=mid(a,g);", ruler.ErrHeavy},
		{"?pt();", ruler.ErrWord}, {"?same(a);", ruler.ErrCount}, {"?same(a,z);", ruler.ErrName}, {"?same(a,l);", ruler.ErrSort},
	}
	for _, first := range wrong {
		for _, second := range wrong {
			wantCheck(t, ahead+first.text+second.text, first.fault, 8)
			wantCheck(t, ahead+"y=pt();?same(a,y);"+first.text+second.text, first.fault, 10)
		}
	}
	wantCheck(t, "?same();a=pt();", ruler.ErrCount, 0)
	wantCheck(t, strings.Repeat("?no();", 16), ruler.ErrWord, 0)
	wantCheck(t, "a=pt();"+strings.Repeat("?same(a,a);", 14)+"?no();", ruler.ErrWord, 15)
}
