package panel

import (
	"slices"
	"strings"

	"orangebox/api"
)

// field says whether something has a field that is not zero, and of which kinds of instruments it is.
type field struct {
	set   bool
	kinds []int
}

// CheckInstrument returns what is wrong with an instrument.
func CheckInstrument(i api.Instrument) api.Errno {
	if i.Kind < api.ShowDigits || i.Kind > api.ShowTape {
		return api.ErrKind
	}
	if !isName(i.Name) || len(i.Track) == 0 || len(i.Track) > maxName {
		return api.ErrName
	}
	if isMisused(i.Kind, fieldsOf(i)) {
		return api.ErrForm
	}
	if i.Places < 0 || i.Places > MaxPlaces {
		return api.ErrRange
	}
	switch i.Kind {
	case api.ShowDial:
		return checkDial(i)
	case api.ShowLamp, api.ShowCount:
		return checkComparison(i)
	case api.ShowTape:
		if i.Size < 1 || i.Size > MaxSize {
			return api.ErrRange
		}
	}
	return api.OK
}

// Check returns what is wrong with a panel.
func Check(p api.Panel) api.Errno {
	if len(p.Instruments) > MaxInstruments {
		return api.ErrSize
	}
	for k, i := range p.Instruments {
		if e := CheckInstrument(i); e != api.OK {
			return e
		}
		if slices.ContainsFunc(p.Instruments[:k], func(x api.Instrument) bool { return x.Name == i.Name }) {
			return api.ErrTwice
		}
	}
	return api.OK
}

func fieldsOf(i api.Instrument) []field {
	return []field{
		{i.Places != 0, []int{api.ShowDigits, api.ShowPeak, api.ShowTape}},
		{i.Low != 0 || i.High != 0 || i.Steps != 0 || len(i.Zones) > 0, []int{api.ShowDial}},
		{i.Op != 0 || i.N != 0, []int{api.ShowLamp, api.ShowCount}},
		{i.Latch, []int{api.ShowLamp}},
		{i.Size != 0, []int{api.ShowTape}},
	}
}

// isMisused reports whether a field is set that a kind of instruments does not use.
func isMisused(kind int, l []field) bool {
	return slices.ContainsFunc(l, func(f field) bool { return f.set && !slices.Contains(f.kinds, kind) })
}

func checkDial(i api.Instrument) api.Errno {
	if i.Low >= i.High || !isNumber(i.Low) || !isNumber(i.High) || i.Steps < 1 || i.Steps > MaxSteps {
		return api.ErrRange
	}
	if len(i.Zones) > MaxZones {
		return api.ErrSize
	}
	for k, z := range i.Zones {
		if !isName(z.Name) {
			return api.ErrName
		}
		if z.From > z.To {
			return api.ErrRange
		}
		if k > 0 && z.From <= i.Zones[k-1].To {
			return api.ErrOrder
		}
	}
	return api.OK
}

func checkComparison(i api.Instrument) api.Errno {
	if !isOp(i.Op) {
		return api.ErrKind
	}
	if !isNumber(i.N) {
		return api.ErrRange
	}
	return api.OK
}

func isOp(op int) bool {
	return op >= api.Less && op <= api.Greater
}

// isName reports whether a text can be the name of an instrument or of a zone. Unlike that of a track it can begin with any of its bytes.
func isName(s string) bool {
	return len(s) >= 1 && len(s) <= maxName && strings.Trim(s, "abcdefghijklmnopqrstuvwxyz0123456789-") == ""
}
