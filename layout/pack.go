package layout

import (
	"orangebox/api"
	"orangebox/frame"
)

// Pack returns the data of a superframe for the values of all cells.
func Pack(m api.Map, l []int) ([api.Super][]int, api.Errno) {
	places, e := Cells(m)
	if e != api.OK {
		return [api.Super][]int{}, e
	}
	if len(l) != len(places) {
		return [api.Super][]int{}, api.ErrSize
	}
	var data [api.Super][]int
	for i := range data {
		data[i] = make([]int, dataWords)
		data[i][0] = m.Version
	}
	for i, c := range places {
		raw, e := encode(m.Params[c.Param], l[i])
		if e != api.OK {
			return [api.Super][]int{}, e
		}
		write(data, c, raw)
	}
	return data, api.OK
}

// Unpack returns the values of all cells from the data of a superframe.
func Unpack(m api.Map, l [api.Super][]int) ([]api.Reading, api.Errno) {
	places, e := Cells(m)
	if e != api.OK {
		return nil, e
	}
	if e := checkData(m, l); e != api.OK {
		return nil, e
	}
	readings := make([]api.Reading, len(places))
	for i, c := range places {
		v, good := decode(m.Params[c.Param], read(l, c))
		readings[i] = api.Reading{Param: c.Param, Index: c.Index, Value: v, Good: good}
	}
	return readings, api.OK
}

// Build returns the sound frames of a superframe, the first one of which has a number.
func Build(m api.Map, first int, l []int) ([api.Super]api.Frame, api.Errno) {
	data, e := Pack(m, l)
	if e != api.OK {
		return [api.Super]api.Frame{}, e
	}
	if first < 0 || first > api.Number-api.Super {
		return [api.Super]api.Frame{}, api.ErrRange
	}
	if first%api.Super != 0 {
		return [api.Super]api.Frame{}, api.ErrForm
	}
	var built [api.Super]api.Frame
	for i := range built {
		f, e := frame.New(first+i, data[i])
		if e != api.OK {
			return [api.Super]api.Frame{}, e
		}
		built[i] = f
	}
	return built, api.OK
}

// Version returns the version of the map by which a frame was packed, if the parity of its word is right.
func Version(f api.Frame) (int, bool) {
	version, odd, e := frame.Data(int(f[versionWord]))
	if e != api.OK || !odd {
		return 0, false
	}
	return version, true
}

// Used returns the words that mean something in the frame with a number.
func Used(m api.Map, number int) ([]int, api.Errno) {
	l, e := Cells(m)
	if e != api.OK {
		return nil, e
	}
	if number < 0 || number >= api.Number {
		return nil, api.ErrRange
	}
	var used [api.Words]bool
	used[versionWord] = true
	for _, c := range l {
		for _, place := range c.Places {
			if place.Frame == number%api.Super {
				used[place.Word] = true
			}
		}
	}
	var words []int
	for i, is := range used {
		if is {
			words = append(words, i)
		}
	}
	return words, api.OK
}

func checkData(m api.Map, l [api.Super][]int) api.Errno {
	for _, data := range l {
		if len(data) != dataWords {
			return api.ErrSize
		}
		for _, d := range data {
			if d < 0 || d >= dataLimit {
				return api.ErrRange
			}
		}
	}
	for _, data := range l {
		if data[0] != m.Version {
			return api.ErrState
		}
	}
	return api.OK
}

// write begins with the last place, which has the lowest bits of raw.
func write(data [api.Super][]int, c api.Cell, raw int) {
	for i := len(c.Places) - 1; i >= 0; i-- {
		place := c.Places[i]
		data[place.Frame][place.Word-versionWord] |= raw % (1 << place.Bits) << place.Low
		raw >>= place.Bits
	}
}

func read(data [api.Super][]int, c api.Cell) int {
	raw := 0
	for _, place := range c.Places {
		raw = raw<<place.Bits | data[place.Frame][place.Word-versionWord]>>place.Low%(1<<place.Bits)
	}
	return raw
}
