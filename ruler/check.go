package ruler

const (
	maxSource = 300
	maxWeight = 64
)

// noGiver is no statement's number.
const noGiver = -1

func isQuestion(s sentence) bool {
	return s.name == 0
}

// giver answers the number of the statement that gives a name, or noGiver.
func giver(list []sentence, name byte) int {
	for k := range list {
		if list[k].name == name {
			return k
		}
	}
	return noGiver
}

// argumentSorts answers a letter for each argument that the statement's word takes, and whether its table has the word.
func argumentSorts(s sentence) (string, bool) {
	if isQuestion(s) {
		return questionTakes(s.word)
	}
	return constructionTakes(s.word)
}

func namesFit(earlier []sentence, s sentence) bool {
	for _, name := range s.args {
		if giver(earlier, name) == noGiver {
			return false
		}
	}
	if isQuestion(s) {
		return true
	}
	return giver(earlier, s.name) == noGiver
}

func sortsFit(earlier []sentence, s sentence, sorts string) bool {
	for i, name := range s.args {
		k := giver(earlier, name)
		if k == noGiver || i >= len(sorts) {
			return false
		}
		if sortGiven(earlier[k].word) != sorts[i] {
			return false
		}
	}
	return true
}

// weigh answers 0 for a question, so that none is ever too heavy.
func weigh(earlier []sentence, s sentence) int {
	if isQuestion(s) {
		return 0
	}
	sum := 0
	last := 0
	for _, name := range s.args {
		k := giver(earlier, name)
		if k != noGiver {
			last = earlier[k].weight
			sum += last
		}
	}
	return weightGiven(s.word, sum, last)
}

// judge answers the weight of a statement behind right ones, or the first of its errors.
func judge(earlier []sentence, s sentence) (int, Errno) {
	sorts, known := argumentSorts(s)
	if !known {
		return 0, ErrWord
	}
	if len(s.args) != len(sorts) {
		return 0, ErrCount
	}
	if !namesFit(earlier, s) {
		return 0, ErrName
	}
	if !sortsFit(earlier, s, sorts) {
		return 0, ErrSort
	}
	weight := weigh(earlier, s)
	if weight > maxWeight {
		return 0, ErrHeavy
	}
	return weight, OK
}

// understand answers the statements of a right source; else its error, with the place that Check tells.
func understand(source string) ([]sentence, Errno, int) {
	if len(source) > maxSource {
		return nil, ErrLong, 0
	}
	parsed, place, ok := parse(source)
	if !ok {
		return nil, ErrForm, place
	}
	var list []sentence
	for k, s := range parsed {
		weight, fault := judge(list, s)
		if fault != OK {
			return nil, fault, k
		}
		s.weight = weight
		list = append(list, s)
	}
	return list, OK, 0
}
