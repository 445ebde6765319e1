package ruler

import "strconv"

func addAnswer(report []byte, so bool) []byte {
	if so {
		return append(report, '1')
	}
	return append(report, '0')
}

func addStop(report []byte, letter byte, statement int) []byte {
	report = append(report, letter)
	return append(report, strconv.Itoa(statement)...)
}
