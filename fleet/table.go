package fleet

import (
	"cmp"
	"slices"
	"strconv"

	"orangebox/api"
	"orangebox/event"
)

const maxCount = 1000000000 // of flights and of events in a row

// Table counts the events of all flights with one key, and hides what is told of few flights.
func Table(l []api.Flight, r api.Rules, m api.Mask, by int) ([]api.FleetRow, api.Errno) {
	if e := checkFlights(l); e != api.OK {
		return nil, e
	}
	if e := event.Check(r); e != api.OK {
		return nil, e
	}
	if e := CheckMask(m); e != api.OK {
		return nil, e
	}
	key, ok := keyBy(by)
	if !ok {
		return nil, api.ErrKind
	}
	rows := rowsBy(key, l, r, m)
	if len(rows) > MaxRows {
		return nil, api.ErrSize
	}
	hide(rows, m.Least)
	return rows, api.OK
}

// CheckTable returns what is wrong with a table.
func CheckTable(l []api.FleetRow) api.Errno {
	if len(l) > MaxRows {
		return api.ErrSize
	}
	keys := map[string]bool{}
	rules := -1 // how many each row has, as soon as one tells it
	for _, row := range l {
		if keys[row.Key] {
			return api.ErrTwice
		}
		keys[row.Key] = true
		if e := checkRow(row); e != api.OK {
			return e
		}
		if row.Hidden {
			continue
		}
		if rules >= 0 && len(row.Events) != rules {
			return api.ErrForm
		}
		rules = len(row.Events)
	}
	return api.OK
}

// Total returns the sums of all rows that are not hidden.
func Total(l []api.FleetRow) (api.FleetRow, api.Errno) {
	if e := CheckTable(l); e != api.OK {
		return api.FleetRow{}, e
	}
	var total api.FleetRow
	for _, row := range l {
		if row.Hidden {
			continue
		}
		if total.Events == nil {
			total.Events = make([]int, len(row.Events))
		}
		total.Flights += row.Flights
		addTo(total.Events, row.Events)
	}
	return total, api.OK
}

// Reveals returns the keys of the rows of which two tables together tell something about few flights.
func Reveals(a, b []api.FleetRow, least int) ([]string, api.Errno) {
	if e := CheckTable(a); e != api.OK {
		return nil, e
	}
	if e := CheckTable(b); e != api.OK {
		return nil, e
	}
	if !isLeast(least) {
		return nil, api.ErrRange
	}
	flights := map[string]int{}
	for _, row := range a {
		if !row.Hidden {
			flights[row.Key] = row.Flights
		}
	}
	var keys []string
	for _, row := range b {
		before, both := flights[row.Key]
		apart := distance(row.Flights, before)
		if both && !row.Hidden && apart >= 1 && apart < least {
			keys = append(keys, row.Key)
		}
	}
	return keys, api.OK
}

// checkRow leaves out what a row must have in common with others.
func checkRow(row api.FleetRow) api.Errno {
	if row.Hidden && (row.Flights != 0 || len(row.Events) > 0) {
		return api.ErrForm
	}
	if !isCount(row.Flights) || !allOf(row.Events, isCount) {
		return api.ErrRange
	}
	return api.OK
}

func isCount(n int) bool {
	return n >= 0 && n <= maxCount
}

// keyBy returns how flights are divided, if there is such a way.
func keyBy(by int) (func(f api.Flight) string, bool) {
	switch by {
	case api.ByNothing:
		return func(api.Flight) string { return "" }, true
	case api.ByTail:
		return func(f api.Flight) string { return f.Tail }, true
	case api.ByRoute:
		return func(f api.Flight) string { return f.Route }, true
	case api.ByDay:
		return func(f api.Flight) string { return strconv.Itoa(f.Day) }, true
	}
	return nil, false
}

// rowsBy returns a row for each key of the masked flights, none of them hidden.
func rowsBy(key func(f api.Flight) string, l []api.Flight, r api.Rules, m api.Mask) []api.FleetRow {
	var rows []api.FleetRow
	rowOf := map[string]int{} // the numbers of the rows with the keys
	for _, f := range l {
		f = masked(f, m)
		k := key(f)
		i, ok := rowOf[k]
		if !ok {
			i = len(rows)
			rowOf[k] = i
			rows = append(rows, api.FleetRow{Key: k, Events: make([]int, len(r.Rules))})
		}
		rows[i].Flights++
		addTo(rows[i].Events, eventsOf(f, r))
	}
	return rows
}

// hide hides the rows of few flights. One that is hidden alone could be told by the total and the others, so another one goes with it.
func hide(rows []api.FleetRow, least int) {
	var few, others []int
	for i, row := range rows {
		if row.Flights < least {
			few = append(few, i)
		} else {
			others = append(others, i)
		}
	}
	if len(few) == 1 && len(others) > 0 {
		fewest := slices.MinFunc(others, func(a, b int) int { return cmp.Compare(rows[a].Flights, rows[b].Flights) })
		few = append(few, fewest)
	}
	for _, i := range few {
		rows[i] = api.FleetRow{Key: rows[i].Key, Hidden: true}
	}
}

// addTo wants as many numbers as sums.
func addTo(sums, l []int) {
	for i, n := range l {
		sums[i] += n
	}
}
