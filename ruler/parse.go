package ruler

const (
	maxStatements = 16
	maxArgs       = 4
	maxWord       = 6
)

// sentence is one statement of a source; its weight is known once it has been judged.
type sentence struct {
	name   byte // 0 in a question, which gives no name
	word   string
	args   []byte
	weight int
}

// reader goes forward over bytes that can stand where they are, and no further:
// so where it refuses, its place is the place of the fault, be it a wrong byte or the text's end.
type reader struct {
	text string
	at   int
}

// peek answers 0 at the end: a byte 0 can stand nowhere in a source, so both are refused alike.
func (r *reader) peek() byte {
	if r.at < 0 || r.at >= len(r.text) {
		return 0
	}
	return r.text[r.at]
}

func (r *reader) take(wanted byte) bool {
	if r.peek() != wanted {
		return false
	}
	r.at++
	return true
}

// takeLetter answers 0 if no letter stands there.
func (r *reader) takeLetter() byte {
	b := r.peek()
	if b < 'a' || b > 'z' {
		return 0
	}
	r.at++
	return b
}

// readHead reads up to the word: a name and `=`, or `?`.
func (r *reader) readHead(s *sentence) bool {
	if r.take('?') {
		return true
	}
	s.name = r.takeLetter()
	if s.name == 0 {
		return false
	}
	return r.take('=')
}

// readWord leaves a letter too many where it is: the bracket that must follow is missed there.
func (r *reader) readWord(s *sentence) bool {
	var letters []byte
	for len(letters) < maxWord {
		letter := r.takeLetter()
		if letter == 0 {
			break
		}
		letters = append(letters, letter)
	}
	s.word = string(letters)
	return len(letters) > 0
}

func (r *reader) readArgs(s *sentence) bool {
	if !r.take('(') {
		return false
	}
	if r.take(')') {
		return true
	}
	for len(s.args) < maxArgs {
		name := r.takeLetter()
		if name == 0 {
			return false
		}
		s.args = append(s.args, name)
		// Behind the last argument that is allowed the comma is already the byte that goes beyond.
		if len(s.args) == maxArgs || r.peek() != ',' {
			break
		}
		r.at++
	}
	return r.take(')')
}

func (r *reader) readStatement(s *sentence) bool {
	if !r.readHead(s) {
		return false
	}
	if !r.readWord(s) {
		return false
	}
	if !r.readArgs(s) {
		return false
	}
	return r.take(';')
}

// parse answers the statements of a text; if it is no source, false and the place of the fault.
func parse(text string) ([]sentence, int, bool) {
	r := reader{text: text}
	var list []sentence
	for r.at < len(text) {
		if len(list) == maxStatements {
			return nil, r.at, false
		}
		var s sentence
		if !r.readStatement(&s) {
			return nil, r.at, false
		}
		list = append(list, s)
	}
	return list, 0, true
}
