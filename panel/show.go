package panel

import (
	"cmp"
	"strconv"

	"orangebox/api"
	"orangebox/event"
	"orangebox/series"
)

// Needle returns where the needle of a dial stands for a number.
func Needle(i api.Instrument, n int) (int, api.Errno) {
	if e := checkShown(i, n); e != api.OK {
		return 0, e
	}
	return needle(i, n), api.OK
}

// ZoneOf returns the name of the zone of a dial in which a number is.
func ZoneOf(i api.Instrument, n int) (string, api.Errno) {
	if e := checkShown(i, n); e != api.OK {
		return "", e
	}
	return zoneOf(i, n), api.OK
}

// Digits writes n / den with some decimal places.
func Digits(n, den, places int) (string, api.Errno) {
	if !isNumber(n) || den < 1 || den > series.MaxDen || places < 0 || places > MaxPlaces {
		return "", api.ErrRange
	}
	return digits(n, den, places), api.OK
}

// Holds reports whether two numbers compare so.
func Holds(op, a, b int) (bool, api.Errno) {
	if !isOp(op) {
		return false, api.ErrKind
	}
	return holds(op, a, b), api.OK
}

func checkShown(i api.Instrument, n int) api.Errno {
	if e := CheckInstrument(i); e != api.OK {
		return e
	}
	if i.Kind != api.ShowDial {
		return api.ErrKind
	}
	if !isNumber(n) {
		return api.ErrRange
	}
	return api.OK
}

func needle(i api.Instrument, n int) int {
	n = min(max(n, i.Low), i.High)
	return (n - i.Low) * i.Steps / (i.High - i.Low)
}

func zoneOf(i api.Instrument, n int) string {
	for _, z := range i.Zones {
		if z.From <= n && n <= z.To {
			return z.Name
		}
	}
	return ""
}

// digits rounds what is left of a whole number only, for n with all decimal places could be beyond an int.
func digits(n, den, places int) string {
	one := 1 // in units of the last place
	for range places {
		one *= 10
	}
	size := max(n, -n)
	part := (size%den*one*2 + den) / (den * 2)
	whole := size/den + part/one
	part %= one
	s := strconv.Itoa(whole)
	if places > 0 {
		s += "." + strconv.Itoa(one + part)[1:] // the 1 ahead keeps the zeros
	}
	if n < 0 && (whole > 0 || part > 0) {
		s = "-" + s
	}
	return s
}

func holds(op, a, b int) bool {
	return event.Holds(op, cmp.Compare(a, b))
}
