package ruler

const maxInput = 140

// readNumber reads no further than the number goes; what stands behind it is the caller's business.
func (r *reader) readNumber() (int, bool) {
	if r.take('0') {
		return 0, true
	}
	negative := r.take('-')
	first := r.peek()
	if first < '1' || first > '9' {
		return 0, false
	}
	r.at++
	number := int(first - '0')
	second := r.peek()
	if second >= '0' && second <= '9' {
		r.at++
		number = 10*number + int(second-'0')
	}
	if negative {
		number = -number
	}
	return number, true
}

// parseInputs answers the numbers of a text, or false if it is no inputs.
func parseInputs(text string) ([]int, bool) {
	r := reader{text: text}
	var list []int
	more := text != ""
	for more {
		number, ok := r.readNumber()
		if !ok {
			return nil, false
		}
		list = append(list, number)
		more = r.take(',')
	}
	if r.at != len(text) {
		return nil, false
	}
	return list, true
}
