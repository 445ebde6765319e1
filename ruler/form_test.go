package ruler_test

import (
	"regexp"
	"strings"
	"testing"

	"ruler/ruler"
)

// The form of a source, written once more in other words than the program's.
var form = regexp.MustCompile(`\A(?:(?:[a-z]=|\?)[a-z]{1,6}\((?:[a-z](?:,[a-z]){0,3})?\);){0,16}\z`)

// begins tells whether some source begins with the text: whatever part of a statement a text ends in,
// one of these tails ends it.
func begins(text string) bool {
	for _, tail := range []string{"", "=w();", "w();", "();", ");", ";", "a);"} {
		if form.MatchString(text + tail) {
			return true
		}
	}
	return false
}

// wantForm holds Check of a text to what P3 says of its form.
func wantForm(t *testing.T, text string) {
	t.Helper()
	e, at := ruler.Check(text)
	if form.MatchString(text) {
		if e == ruler.ErrForm || e == ruler.ErrLong {
			t.Errorf("P3: Check(%q) = %d, %d of a source", text, e, at)
		}
		return
	}
	if e != ruler.ErrForm || at < 0 || at > len(text) {
		t.Errorf("P3: Check(%q) = %d, %d, want ErrForm and a place", text, e, at)
		return
	}
	if !begins(text[:at]) {
		t.Errorf("P3: Check(%q) tells place %d, and a byte ahead of it cannot stand there", text, at)
	}
	if at < len(text) && begins(text[:at+1]) {
		t.Errorf("P3: Check(%q) tells place %d, and the byte can stand there", text, at)
	}
}

var formSeeds = []string{
	"",
	"a=pt();",
	"?same(a,z);",
	"z=centre(a,b,c,d);?on(p,l);",
	"a=pt();b=pt();l=line(a,b);m=mid(a,b);?on(m,l);",
	strings.Repeat("a=w();", 15) + "?w();",
}

// Of each kind of byte that a source has some, the neighbours of those in their order, and bytes of no kind.
const formBytes = "amz`{AZ@=<>?();,+-:! 019\n\x00\x7f\x80\xff"

func TestFormOfChangedSources(t *testing.T) {
	for _, seed := range formSeeds {
		for i := 0; i <= len(seed); i++ {
			wantForm(t, seed[:i])
			wantForm(t, seed[i:])
			for k := 0; k < len(formBytes); k++ {
				b := formBytes[k : k+1]
				wantForm(t, seed[:i]+b+seed[i:])
				if i < len(seed) {
					wantForm(t, seed[:i]+b+seed[i+1:])
				}
			}
			if i < len(seed) {
				wantForm(t, seed[:i]+seed[i+1:])
			}
		}
	}
}

func TestFormAtEveryByte(t *testing.T) {
	seed := "a=mid(b,c);?on(d,e);"
	for i := 0; i < len(seed); i++ {
		for b := 0; b < 256; b++ {
			wantForm(t, seed[:i]+string([]byte{byte(b)})+seed[i+1:])
		}
	}
}

func TestFormOfShortTexts(t *testing.T) {
	const bytes = "a=?(),;"
	texts := []string{""}
	for length := 0; length <= 4; length++ {
		var longer []string
		for _, text := range texts {
			wantForm(t, text)
			for k := 0; k < len(bytes); k++ {
				longer = append(longer, text+bytes[k:k+1])
			}
		}
		texts = longer
	}
}

func TestFormEndsTooEarly(t *testing.T) {
	source := "a=pt();b=pt();l=line(a,b);?on(a,l);"
	for i := 1; i < len(source); i++ {
		if source[i-1] == ';' {
			continue
		}
		wantCheck(t, source[:i], ruler.ErrForm, i)
	}
}

func TestFormAtTheBounds(t *testing.T) {
	// MaxWord: the sixth letter may stand there, the seventh not.
	wantCheck(t, "a=abcdef();", ruler.ErrWord, 0)
	wantCheck(t, "a=abcdefg();", ruler.ErrForm, 8)
	wantCheck(t, "?abcdef();", ruler.ErrWord, 0)
	wantCheck(t, "?abcdefg();", ruler.ErrForm, 7)
	wantCheck(t, "a=centre", ruler.ErrForm, 8)
	// MaxArgs: behind a fourth argument no comma may stand.
	wantCheck(t, "a=pt(a,a,a,a);", ruler.ErrCount, 0)
	wantCheck(t, "a=pt(a,a,a,a,a);", ruler.ErrForm, 12)
	wantCheck(t, "a=pt(a,a,a,a,", ruler.ErrForm, 12)
	wantCheck(t, "a=pt(a,a,a,a", ruler.ErrForm, 12)
	wantCheck(t, "a=pt(a,a,a,ab);", ruler.ErrForm, 12)
	// MaxStatements: behind a sixteenth statement nothing may stand.
	sixteen := "a=pt();" + strings.Repeat("?same(a,a);", 15)
	wantCheck(t, sixteen, ruler.OK, 0)
	wantCheck(t, sixteen+"?same(a,a);", ruler.ErrForm, len(sixteen))
	wantCheck(t, sixteen+"b", ruler.ErrForm, len(sixteen))
	wantCheck(t, sixteen+" ", ruler.ErrForm, len(sixteen))
	// The longest text of the right form has 288 bytes; what comes behind goes beyond.
	longest := strings.Repeat("a=centre(a,b,c,d);", 16)
	wantCheck(t, longest, ruler.ErrCount, 0)
	wantCheck(t, longest+"a=centre(a,b", ruler.ErrForm, 288)
	wantCheck(t, longest+"a=centre(a,b,", ruler.ErrLong, 0)
}

func TestFormOrLong(t *testing.T) {
	for _, unit := range []string{"a", "?", "a=pt();", "\x00", "\xff", " ", "?same(a,a);"} {
		text := strings.Repeat(unit, 301)
		wantForm(t, text[:299])
		wantForm(t, text[:300])
		wantCheck(t, text[:301], ruler.ErrLong, 0)
		wantCheck(t, text, ruler.ErrLong, 0)
	}
}

func TestFormGoesAheadOfStatements(t *testing.T) {
	// Every statement is wrong in some way, and still the form's fault behind them is told.
	wantCheck(t, "a=no();b=pt(a);?on(z,z);a", ruler.ErrForm, 25)
	wantCheck(t, "a=no();a=pt();a=pt() ", ruler.ErrForm, 20)
	wantCheck(t, strings.Repeat("?no();", 16)+"?no();", ruler.ErrForm, 96)
}
