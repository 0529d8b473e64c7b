package series

import (
	"slices"

	"orangebox/api"
	"orangebox/layout"
	"orangebox/salvage"
)

const (
	versionWord = 3 // its data are the version of the map by which the frame was packed
	dataLimit   = 1 << 11
)

// reader reads what a parameter was in superframes.
type reader struct {
	version int
	param   api.Param
	cells   []api.Cell
}

// superframe is what is left of its frames.
type superframe [api.Super]*api.Rest

// Times returns when the samples of a parameter are, in the superframe that begins with a frame.
func Times(p api.Param, first int) ([]int, api.Errno) {
	r, e := readerOf(0, p)
	if e != api.OK {
		return nil, e
	}
	if first < 0 || first > api.Number-api.Super {
		return nil, api.ErrRange
	}
	if first%api.Super != 0 {
		return nil, api.ErrForm
	}
	times := make([]int, len(r.cells))
	for i, c := range r.cells {
		times[i] = r.time(c, first)
	}
	return times, api.OK
}

// FromRests returns the series of a parameter, as far as it is left.
func FromRests(m api.Map, name string, l []api.Rest) (api.Series, api.Errno) {
	if _, e := layout.Check(m); e != api.OK {
		return api.Series{}, e
	}
	i := slices.IndexFunc(m.Params, func(p api.Param) bool { return p.Name == name })
	if i < 0 {
		return api.Series{}, api.ErrNone
	}
	if len(l) > MaxRests {
		return api.Series{}, api.ErrSize
	}
	if e := salvage.CheckRising(l); e != api.OK {
		return api.Series{}, e
	}
	return FromRising(m.Version, m.Params[i], l)
}

// FromRising is FromRests for one who has asked already for what can be wrong with the map and the rests: all but too many samples. The parameter is one of a map with a version.
func FromRising(version int, p api.Param, l []api.Rest) (api.Series, api.Errno) {
	r, e := readerOf(version, p)
	if e != api.OK {
		return api.Series{}, e
	}
	if len(l) == 0 {
		return api.Series{Den: 1}, api.OK
	}
	from, end := extent(l)
	if (end-from)/api.Super*len(r.cells)+1 > MaxSamples {
		return api.Series{}, api.ErrSize
	}
	return api.Series{Den: 1, Samples: r.samples(l)}, api.OK
}

// readerOf makes a map of the parameter alone, whose cells are its cells.
func readerOf(version int, p api.Param) (reader, api.Errno) {
	cells, e := layout.Cells(api.Map{Params: []api.Param{p}})
	if e != api.OK {
		return reader{}, e
	}
	return reader{version, p, cells}, api.OK
}

// extent returns the number with which the superframe of the first rest begins, and the one behind that of the last rest.
func extent(l []api.Rest) (from, end int) {
	first, last := l[0].Number, l[len(l)-1].Number
	return first - first%api.Super, last - last%api.Super + api.Super
}

// time returns when the sample of a cell is, in the superframe that begins with a frame.
func (r reader) time(c api.Cell, first int) int {
	return api.Ticks*(first+c.Frame) + api.Ticks*(c.Index%r.param.Times)/r.param.Times
}

// samples wants at least one rest, and numbers that rise.
func (r reader) samples(l []api.Rest) []api.Sample {
	var s []api.Sample
	var lost api.Rest
	from, end := extent(l)
	for first := from; first < end; first += api.Super {
		var frames superframe
		for i := range frames {
			frames[i] = &lost
		}
		for len(l) > 0 && l[0].Number < first+api.Super {
			frames[l[0].Number-first] = &l[0]
			l = l[1:]
		}
		for _, c := range r.cells {
			n, mark := r.read(c, &frames)
			s = append(s, api.Sample{At: r.time(c, first), N: n, Mark: mark})
		}
	}
	return append(s, api.Sample{At: api.Ticks * end, Mark: api.MarkLost}) // so that the last sample is not held for ever
}

// read returns the number and the mark of a cell.
func (r reader) read(c api.Cell, frames *superframe) (n, mark int) {
	state, raw := api.WordGood, 0
	for _, place := range c.Places {
		rest := frames[place.Frame]
		if int(rest.Frame[versionWord])%dataLimit != r.version {
			return 0, api.MarkLost
		}
		state = min(state, rest.States[place.Word], rest.States[versionWord])
		raw = raw<<place.Bits | int(rest.Frame[place.Word])>>place.Low%(1<<place.Bits)
	}
	if state == api.WordLost {
		return 0, api.MarkLost
	}
	v, good, _ := layout.Decode(r.param, raw)
	if !good {
		return 0, api.MarkWrong
	}
	return v, markOf(state)
}

// markOf returns how far a number can be trusted that rests on words of which the least has this state.
func markOf(state int) int {
	return [...]int{api.WordLost: api.MarkLost, api.WordDoubtful: api.MarkDoubtful, api.WordMended: api.MarkMended, api.WordGood: api.MarkGood}[state]
}
