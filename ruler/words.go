package ruler

// The sorts of what a name stands for.
const (
	sortPoint byte = 'P'
	sortLine  byte = 'L'
)

// constructionTakes answers the sorts of the arguments, a letter for each, and whether the table has the word.
func constructionTakes(word string) (string, bool) {
	switch word {
	case "pt":
		return "", true
	case "mid", "line":
		return "PP", true
	case "par", "perp", "foot", "mirror":
		return "PL", true
	case "meet":
		return "LL", true
	case "centre":
		return "PPP", true
	}
	return "", false
}

// questionTakes is to questions what constructionTakes is to constructions.
func questionTakes(word string) (string, bool) {
	switch word {
	case "same":
		return "PP", true
	case "col", "ccw", "btw":
		return "PPP", true
	case "con":
		return "PPPP", true
	case "on":
		return "PL", true
	case "pll", "prp":
		return "LL", true
	case "cc":
		return "LLL", true
	}
	return "", false
}

// sortGiven answers the sort of what a construction's word gives.
func sortGiven(word string) byte {
	switch word {
	case "line", "par", "perp":
		return sortLine
	}
	return sortPoint
}

// weightGiven needs the last argument's weight beside the sum, because foot counts its line twice.
func weightGiven(word string, sum int, last int) int {
	switch word {
	case "pt":
		return 1
	case "foot":
		return sum + last
	case "mirror":
		return 2 * sum
	case "centre":
		return 4 * sum
	}
	return sum
}
