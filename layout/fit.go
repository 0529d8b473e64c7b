package layout

import (
	"slices"

	"orangebox/api"
)

// Fit returns a parameter with the first words and bits that are free for its parts, one part after another.
func Fit(m api.Map, p api.Param) (api.Param, api.Errno) {
	l, e := Cells(m)
	if e != api.OK {
		return api.Param{}, e
	}
	if e := CheckParam(p); e != api.OK {
		return api.Param{}, e
	}
	if find(m.Params, p.Name) >= 0 {
		return api.Param{}, api.ErrTwice
	}
	fitted := copyParam(p)
	taken := takenSpots(l)
	for i, part := range p.Parts {
		place, ok := firstFree(taken, p, part)
		if !ok {
			return api.Param{}, api.ErrNone
		}
		take(taken, p, place)
		fitted.Parts[i] = place
	}
	longer := api.Map{Version: m.Version, Params: append(slices.Clip(m.Params), fitted)}
	if _, e := Check(longer); e != api.OK {
		return api.Param{}, e
	}
	return fitted, api.OK
}

func takenSpots(l []api.Cell) map[spot]bool {
	taken := map[spot]bool{}
	for _, c := range l {
		for s := range cellSpots(c) {
			taken[s] = true
		}
	}
	return taken
}

// firstFree returns the part with the least word, and in it the lowest bits, that are free in all samples of p.
func firstFree(taken map[spot]bool, p api.Param, part api.Part) (api.Part, bool) {
	for part.Word = api.Fixed; part.Word <= api.Last && !isMovedOut(p, part.Word); part.Word++ {
		for part.Low = 0; part.Low <= dataBits-part.Bits; part.Low++ {
			if isFree(taken, p, part) {
				return part, true
			}
		}
	}
	return api.Part{}, false
}

func isFree(taken map[spot]bool, p api.Param, part api.Part) bool {
	for frame, moved := range samples(p) {
		for s := range placeSpots(placeOf(part, frame, moved)) {
			if taken[s] {
				return false
			}
		}
	}
	return true
}

func take(taken map[spot]bool, p api.Param, part api.Part) {
	for frame, moved := range samples(p) {
		for s := range placeSpots(placeOf(part, frame, moved)) {
			taken[s] = true
		}
	}
}
