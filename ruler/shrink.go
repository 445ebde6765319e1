package ruler

// neededSteps tells of each step whether it is needed. It goes from the last step to the first,
// and keeps which registers a needed step behind reads before any step sets them anew.
func neededSteps(steps []step) []bool {
	needed := make([]bool, len(steps))
	var wanted marks
	for k := len(steps) - 1; k >= 0; k-- {
		s := steps[k]
		needed[k] = !setsX(s.op) || wanted[s.x]
		if needed[k] {
			wanted = wantedAhead(s, wanted)
		}
	}
	return needed
}

// wantedAhead answers what is wanted ahead of a needed step. A step reads before it sets, so what it reads is marked last.
func wantedAhead(s step, wanted marks) marks {
	wanted[s.x] = !setsX(s.op)
	if readsY(s.op) {
		wanted[s.y] = true
	}
	if readsZ(s.op) {
		wanted[s.z] = true
	}
	return wanted
}

func keepNeeded(steps []step) []step {
	needed := neededSteps(steps)
	var kept []step
	for k, s := range steps {
		if k < len(needed) && needed[k] {
			kept = append(kept, s)
		}
	}
	return kept
}
