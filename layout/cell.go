package layout

import (
	"iter"
	"slices"

	"orangebox/api"
)

// spot is where a bit lies in a superframe.
type spot struct{ frame, word, bit int }

// Check returns what is wrong with a map, and the number of the parameter to which it belongs.
func Check(m api.Map) (int, api.Errno) {
	if e := checkWhole(m); e != api.OK {
		return 0, e
	}
	return checkParams(m)
}

// Cells returns all samples of a superframe.
func Cells(m api.Map) ([]api.Cell, api.Errno) {
	if _, e := Check(m); e != api.OK {
		return nil, e
	}
	return cells(m), api.OK
}

// Owner returns the cell that has a bit.
func Owner(m api.Map, frame, word, bit int) (api.Cell, bool, api.Errno) {
	l, e := Cells(m)
	if e != api.OK {
		return api.Cell{}, false, e
	}
	if frame < 0 || frame >= api.Super || word < 0 || word >= api.Words || bit < 0 || bit >= dataBits {
		return api.Cell{}, false, api.ErrRange
	}
	wanted := spot{frame, word, bit}
	for _, c := range l {
		for s := range cellSpots(c) {
			if s == wanted {
				return c, true, api.OK
			}
		}
	}
	return api.Cell{}, false, api.OK
}

// Room returns how many bits of each frame no cell has.
func Room(m api.Map) ([api.Super]int, api.Errno) {
	var room [api.Super]int
	l, e := Cells(m)
	if e != api.OK {
		return room, e
	}
	for i := range room {
		room[i] = mapWords * dataBits
	}
	for _, c := range l {
		for s := range cellSpots(c) {
			room[s.frame]--
		}
	}
	return room, api.OK
}

// checkWhole returns the errors of a map that belong to no parameter.
func checkWhole(m api.Map) api.Errno {
	if m.Version < 0 || m.Version >= dataLimit {
		return api.ErrRange
	}
	if len(m.Params) > MaxParams {
		return api.ErrSize
	}
	return api.OK
}

func checkParams(m api.Map) (int, api.Errno) {
	for i, p := range m.Params {
		if e := CheckParam(p); e != api.OK {
			return i, e
		}
		if find(m.Params[:i], p.Name) >= 0 {
			return i, api.ErrTwice
		}
	}
	count := 0
	for i, p := range m.Params {
		count += frames(p) * p.Times
		if count > MaxCells {
			return i, api.ErrSize
		}
	}
	return checkBits(m)
}

// checkBits wants parameters without errors: no bit of one is taken twice by itself.
func checkBits(m api.Map) (int, api.Errno) {
	taken := map[spot]bool{}
	for i, p := range m.Params {
		for _, c := range paramCells(i, p) {
			for s := range cellSpots(c) {
				if taken[s] {
					return i, api.ErrTwice
				}
				taken[s] = true
			}
		}
	}
	return 0, api.OK
}

// find returns the place of the parameter with a name, or -1.
func find(params []api.Param, name string) int {
	return slices.IndexFunc(params, func(p api.Param) bool { return p.Name == name })
}

// cells wants a map without errors.
func cells(m api.Map) []api.Cell {
	var l []api.Cell
	for i, p := range m.Params {
		l = append(l, paramCells(i, p)...)
	}
	return l
}

func paramCells(number int, p api.Param) []api.Cell {
	var l []api.Cell
	for frame, moved := range samples(p) {
		c := api.Cell{Param: number, Index: len(l), Frame: frame}
		for _, part := range p.Parts {
			c.Places = append(c.Places, placeOf(part, frame, moved))
		}
		l = append(l, c)
	}
	return l
}

// samples yields for each sample of a superframe the frame in which it begins, and how far its words are moved.
func samples(p api.Param) iter.Seq2[int, int] {
	return func(yield func(int, int) bool) {
		for i := range frames(p) {
			for j := range p.Times {
				if !yield(p.First+i*p.Every, j*p.Step) {
					return
				}
			}
		}
	}
}

func placeOf(part api.Part, frame, moved int) api.Place {
	return api.Place{Frame: frame + part.Frame, Word: part.Word + moved, Low: part.Low, Bits: part.Bits}
}

func cellSpots(c api.Cell) iter.Seq[spot] {
	return func(yield func(spot) bool) {
		for _, place := range c.Places {
			for s := range placeSpots(place) {
				if !yield(s) {
					return
				}
			}
		}
	}
}

func placeSpots(place api.Place) iter.Seq[spot] {
	return func(yield func(spot) bool) {
		for i := range place.Bits {
			if !yield(spot{place.Frame, place.Word, place.Low + i}) {
				return
			}
		}
	}
}
