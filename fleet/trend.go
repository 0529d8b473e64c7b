package fleet

import (
	"slices"

	"orangebox/api"
	"orangebox/event"
	"orangebox/series"
)

// Trend returns by how much the number of events of a rule rises in a day, on the line that fits best. Of MaxFlights flights the numerator and the denominator are far within an int.
func Trend(l []api.Flight, r api.Rules, m api.Mask, rule string) (api.Ratio, api.Errno) {
	if e := checkFlights(l); e != api.OK {
		return api.Ratio{}, e
	}
	if e := event.Check(r); e != api.OK {
		return api.Ratio{}, e
	}
	if e := CheckMask(m); e != api.OK {
		return api.Ratio{}, e
	}
	number := slices.IndexFunc(r.Rules, func(x api.Rule) bool { return x.Name == rule })
	if number < 0 || len(l) < m.Least {
		return api.Ratio{}, api.ErrNone
	}
	var days, counts []int
	for _, f := range l {
		f = masked(f, m)
		days = append(days, f.Day)
		counts = append(counts, eventsOf(f, r)[number])
	}
	return slope(days, counts)
}

// slope multiplies both sums by the number of flights, so that the means need not be known.
func slope(days, counts []int) (api.Ratio, api.Errno) {
	var d, e, de, dd int
	for i, day := range days {
		d += day
		e += counts[i]
		de += day * counts[i]
		dd += day * day
	}
	across := len(days)*dd - d*d
	if across == 0 {
		return api.Ratio{}, api.ErrEmpty
	}
	return series.Lowest(len(days)*de-d*e, across), api.OK
}
