package fleet_test

import (
	"fmt"
	"strconv"
	"testing"

	"orangebox/api"
	"orangebox/fleet"
)

func shown(key string, flights int, events ...int) api.FleetRow {
	return api.FleetRow{Key: key, Flights: flights, Events: events}
}

func hidden(key string) api.FleetRow {
	return api.FleetRow{Key: key, Hidden: true}
}

func tableOf(t *testing.T, l []api.Flight, r api.Rules, m api.Mask, by int) []api.FleetRow {
	t.Helper()
	rows, e := fleet.Table(l, r, m, by)
	wantErrno(t, "Table", e, api.OK)
	return rows
}

// routed has a flight for each letter, which is its route.
func routed(routes string) []api.Flight {
	return many(len(routes), func(i int) api.Flight { return flight("", routes[i:i+1], i) })
}

// I3
func TestTable(t *testing.T) {
	r := ruled(t, "rule high if a > 10\nrule low if a < 5")
	l := []api.Flight{flown(10, 5, 15, 5), flown(11, 12, 3, 14), flown(12, 1, 2, 13), flown(20, 11)}
	l[0].Tail, l[1].Tail, l[2].Tail, l[3].Tail = "t2", "t1", "", "t2"
	l[1].Route, l[3].Route = "q", "q"
	for by, want := range map[int][]api.FleetRow{
		api.ByNothing: {shown("", 4, 5, 2)},
		api.ByTail:    {shown("t2", 2, 2, 0), shown("t1", 1, 2, 1), shown("", 1, 1, 1)},
		api.ByRoute:   {shown("r", 2, 2, 1), shown("q", 2, 3, 1)},
		api.ByDay:     {shown("10", 1, 1, 0), shown("11", 1, 2, 1), shown("12", 1, 1, 1), shown("20", 1, 1, 0)},
	} {
		wantSame(t, fmt.Sprint("Table by ", by), tableOf(t, l, r, open(), by), want)
	}
	wantSame(t, "without rules", tableOf(t, l, api.Rules{}, open(), api.ByRoute), []api.FleetRow{shown("r", 2), shown("q", 2)})
}

// I3: keys and events are those of the masked flights.
func TestTableUnderMasks(t *testing.T) {
	r := ruled(t, "rule high if a > 10\nrule low if a < 5")
	l := []api.Flight{flown(10, 5, 15, 5), flown(11, 12, 3, 14), flown(12, 1, 2, 13), flown(20, 11)}
	l[0].Tail = "u"
	for name, c := range map[string]struct {
		m    api.Mask
		by   int
		want []api.FleetRow
	}{
		"tails":  {api.Mask{Tails: true, Days: 1, Least: 1}, api.ByTail, []api.FleetRow{shown("", 4, 5, 2)}},
		"days":   {api.Mask{Days: 6, Least: 1}, api.ByDay, []api.FleetRow{shown("6", 2, 3, 1), shown("12", 1, 1, 1), shown("18", 1, 1, 0)}},
		"tracks": {api.Mask{Days: 1, Hide: []string{"a"}, Least: 1}, api.ByTail, []api.FleetRow{shown("u", 1, 0, 0), shown("t", 3, 0, 0)}},
		"grains": {api.Mask{Days: 1, Grains: []api.Grain{grain("a", 13)}, Least: 1}, api.ByTail, []api.FleetRow{shown("u", 1, 1, 2), shown("t", 3, 2, 3)}},
		"few":    {api.Mask{Days: 1, Least: 2}, api.ByTail, []api.FleetRow{hidden("u"), hidden("t")}},
	} {
		wantSame(t, name, tableOf(t, l, r, c.m, c.by), c.want)
	}
}

// I3: rows of few flights are hidden, and never one alone if there are others.
func TestHiddenRows(t *testing.T) {
	for _, c := range []struct {
		routes string
		least  int
		want   []api.FleetRow
	}{
		{"aabb", 2, []api.FleetRow{shown("a", 2), shown("b", 2)}},
		{"aabbb", 3, []api.FleetRow{hidden("a"), hidden("b")}},
		{"a", 2, []api.FleetRow{hidden("a")}},
		{"abc", 2, []api.FleetRow{hidden("a"), hidden("b"), hidden("c")}},
		{"abccc", 2, []api.FleetRow{hidden("a"), hidden("b"), shown("c", 3)}},
		{"abbbcc", 2, []api.FleetRow{hidden("a"), shown("b", 3), hidden("c")}},
		{"bbbacc", 2, []api.FleetRow{shown("b", 3), hidden("a"), hidden("c")}},
		{"bbcca", 2, []api.FleetRow{hidden("b"), shown("c", 2), hidden("a")}},
		{"cbcbaddd", 2, []api.FleetRow{hidden("c"), shown("b", 2), hidden("a"), shown("d", 3)}},
		{"dddbacbc", 2, []api.FleetRow{shown("d", 3), hidden("b"), hidden("a"), shown("c", 2)}},
		{"aaab", 4, []api.FleetRow{hidden("a"), hidden("b")}},
		{"aaaab", 1, []api.FleetRow{shown("a", 4), shown("b", 1)}},
	} {
		wantSame(t, fmt.Sprint("Table of ", c.routes, " with Least ", c.least), tableOf(t, routed(c.routes), api.Rules{}, least(c.least), api.ByRoute), c.want)
	}
	r := ruled(t, "rule all if true")
	wantSame(t, "hidden events", tableOf(t, routed("aaabbc"), r, least(2), api.ByRoute), []api.FleetRow{shown("a", 3, 3), hidden("b"), hidden("c")})
}

// I3: as many flights and rows as there can be.
func TestLargeTable(t *testing.T) {
	l := many(fleet.MaxFlights, func(i int) api.Flight { return flight("t"+strconv.Itoa(i/2), "r", 1000-i) })
	r := ruled(t, "rule all if true")
	wantSame(t, "by day", tableOf(t, l, r, open(), api.ByDay), many(fleet.MaxRows, func(i int) api.FleetRow { return shown(strconv.Itoa(1000-i), 1, 1) }))
	wantSame(t, "by tail", tableOf(t, l, r, least(2), api.ByTail), many(150, func(i int) api.FleetRow { return shown("t"+strconv.Itoa(i), 2, 2) }))
	wantSame(t, "by nothing", tableOf(t, l, r, least(300), api.ByNothing), []api.FleetRow{shown("", 300, 300)})
	wantSame(t, "hidden", tableOf(t, l, r, least(301), api.ByNothing), []api.FleetRow{hidden("")})
}

// I3: tables are those of the plainest reading; they have no errors themselves.
func TestTableIsPlain(t *testing.T) {
	r := dice(4)
	for range 400 {
		l, rules, m := someFlights(r), someRules(t, r), someMask(r)
		by := pick(r, api.ByNothing, api.ByTail, api.ByRoute, api.ByDay)
		rows := tableOf(t, l, rules, m, by)
		wantSame(t, fmt.Sprint("Table of ", l, " under ", m, " by ", by), rows, plainTable(t, l, rules, m, by))
		wantErrno(t, "CheckTable", fleet.CheckTable(rows), api.OK)
	}
}

const many9 = 1000000000 // the limit of what a row counts

// I3: tables without errors, at their limits too.
func TestCheckTable(t *testing.T) {
	for name, l := range map[string][]api.FleetRow{
		"no rows":          nil,
		"many rows":        many(fleet.MaxRows, func(i int) api.FleetRow { return shown(strconv.Itoa(i), i, i) }),
		"no events":        {shown("a", 1), shown("b", 2)},
		"hidden ones":      {hidden("a"), shown("b", 2, 3, 4), hidden("c"), shown("d", 5, 6, 7), hidden("")},
		"only hidden ones": {hidden("a"), hidden("b")},
		"great numbers":    {shown("", many9, many9, 0), shown("-", 0, 0, many9)},
		"any keys":         {shown("A b\n", 0), shown("a", 0), shown("\xff", 0), shown("", 0), shown("\x00", 0)},
		"more events":      {shown("a", 1, 2, 3)},
		"an empty list":    {{Key: "a", Hidden: true, Events: []int{}}},
	} {
		wantErrno(t, name, fleet.CheckTable(l), api.OK)
	}
}

// I3: each error of a table, ahead of those that are asked for behind it.
func TestCheckTableErrors(t *testing.T) {
	tables := map[string]struct {
		l    []api.FleetRow
		want api.Errno
	}{
		"many rows":                          {make([]api.FleetRow, fleet.MaxRows+1), api.ErrSize},
		"a key twice":                        {[]api.FleetRow{shown("a", 1), shown("b", 1), shown("a", -1)}, api.ErrTwice},
		"a hidden key twice":                 {[]api.FleetRow{shown("a", 1), {Key: "a", Hidden: true, Flights: 1}}, api.ErrTwice},
		"an empty key twice":                 {[]api.FleetRow{hidden(""), hidden("")}, api.ErrTwice},
		"hidden flights":                     {[]api.FleetRow{{Hidden: true, Flights: 1}}, api.ErrForm},
		"too few hidden flights":             {[]api.FleetRow{{Hidden: true, Flights: -1}}, api.ErrForm},
		"hidden events":                      {[]api.FleetRow{shown("a", 1, 1), {Hidden: true, Events: []int{0}}}, api.ErrForm},
		"hidden events beyond":               {[]api.FleetRow{{Hidden: true, Events: []int{-1}}}, api.ErrForm},
		"fewer flights than none":            {[]api.FleetRow{shown("a", -1)}, api.ErrRange},
		"many flights":                       {[]api.FleetRow{shown("a", many9+1)}, api.ErrRange},
		"fewer events than none":             {[]api.FleetRow{shown("a", 1, 0, -1)}, api.ErrRange},
		"many events":                        {[]api.FleetRow{shown("a", 1, many9+1, 0)}, api.ErrRange},
		"many events, and more of them":      {[]api.FleetRow{shown("a", 1, 1), shown("b", 1, many9+1, 0)}, api.ErrRange},
		"fewer events":                       {[]api.FleetRow{shown("a", 1, 1), shown("b", 1)}, api.ErrForm},
		"more events":                        {[]api.FleetRow{shown("a", 1), shown("b", 1, 1)}, api.ErrForm},
		"more events behind a hidden row":    {[]api.FleetRow{hidden("h"), shown("a", 1), hidden("i"), shown("b", 1, 1)}, api.ErrForm},
		"fewer events than the first one":    {[]api.FleetRow{shown("a", 1, 1, 1), shown("b", 1, 1, 1), shown("c", 1, 1)}, api.ErrForm},
		"a key twice, then a number":         {[]api.FleetRow{shown("a", 1), shown("a", 1), shown("b", -1)}, api.ErrTwice},
		"a number, then a key twice":         {[]api.FleetRow{shown("a", 1), shown("b", -1), shown("a", 1)}, api.ErrRange},
		"another number of events, then one": {[]api.FleetRow{shown("a", 1), shown("b", 1, 1), shown("c", -1)}, api.ErrForm},
		"a hidden one, then a key twice":     {[]api.FleetRow{{Key: "a", Hidden: true, Flights: 1}, shown("a", 1)}, api.ErrForm},
	}
	for _, b := range beyond() {
		tables[fmt.Sprint("flights ", b)] = tables["many flights"]
		tables[fmt.Sprint("events ", b)] = tables["many events"]
		tables[fmt.Sprint("flights ", b)].l[0].Flights = b
		tables[fmt.Sprint("events ", b)].l[0].Events[0] = b
	}
	for name, c := range tables {
		wantErrno(t, name, fleet.CheckTable(c.l), c.want)
		wantWrong(t, "Total: "+name, results(fleet.Total(c.l)), c.want)
		wantWrong(t, "Print: "+name, results(fleet.Print(c.l)), c.want)
		wantWrong(t, "Reveals: "+name, results(fleet.Reveals(c.l, []api.FleetRow{{Hidden: true, Flights: -1}}, 0)), c.want)
		wantWrong(t, "Reveals behind: "+name, results(fleet.Reveals(nil, c.l, 0)), c.want)
	}
}

func wantTotal(t *testing.T, name string, l []api.FleetRow, want api.FleetRow) {
	t.Helper()
	total, e := fleet.Total(l)
	wantErrno(t, name, e, api.OK)
	wantSame(t, name, total, want)
}

// I3
func TestTotal(t *testing.T) {
	wantTotal(t, "some", []api.FleetRow{shown("a", 1, 20, 300), hidden("h"), shown("b", 4, 50, 600)}, shown("", 5, 70, 900))
	wantTotal(t, "behind a hidden one", []api.FleetRow{hidden("h"), shown("a", 1, 2, 3), shown("b", 1, 2, 3)}, shown("", 2, 4, 6))
	wantTotal(t, "one", []api.FleetRow{shown("a", 1, 2)}, shown("", 1, 2))
	wantTotal(t, "without events", []api.FleetRow{hidden("h"), shown("a", 1), shown("b", 2)}, shown("", 3))
	wantTotal(t, "hidden", []api.FleetRow{hidden("a"), hidden("b")}, shown("", 0))
	wantTotal(t, "none", nil, shown("", 0))
	wantTotal(t, "many", many(fleet.MaxRows, func(i int) api.FleetRow { return shown(strconv.Itoa(i), many9, many9, 1) }), shown("", 300*many9, 300*many9, 300))
}

// I3: the total of a table is that of all flights that are in rows that are not hidden.
func TestTotalOfTables(t *testing.T) {
	r := dice(5)
	for range 200 {
		l, rules := someFlights(r), someRules(t, r)
		rows := tableOf(t, l, rules, open(), api.ByDay)
		all := tableOf(t, l, rules, open(), api.ByNothing)
		if len(l) == 0 {
			all = []api.FleetRow{{}}
		}
		wantTotal(t, "of all flights", rows, all[0])
	}
}

func wantReveals(t *testing.T, a, b []api.FleetRow, least int, want ...string) {
	t.Helper()
	keys, e := fleet.Reveals(a, b, least)
	wantErrno(t, "Reveals", e, api.OK)
	wantSame(t, fmt.Sprint("Reveals of ", a, " and ", b, " with ", least), keys, want)
}

// I3
func TestReveals(t *testing.T) {
	a := []api.FleetRow{shown("a", 10, 1), shown("b", 10, 1), hidden("c"), shown("d", 10, 1), shown("e", 0, 1), shown("f", 10, 1), shown("", 1, 1)}
	b := []api.FleetRow{shown("f", 11, 1), shown("", 4, 1), shown("d", 13, 1), hidden("a"), shown("c", 1, 1), shown("b", 10, 1), shown("e", 2, 2), shown("z", 1, 1), hidden("y")}
	wantReveals(t, a, b, 1)
	wantReveals(t, a, b, 2, "f")
	wantReveals(t, a, b, 3, "f", "e")
	wantReveals(t, a, b, 4, "f", "", "d", "e")
	wantReveals(t, a, b, fleet.MaxLeast, "f", "", "d", "e")
	wantReveals(t, b, a, 4, "d", "e", "f", "")
	wantReveals(t, a, a, fleet.MaxLeast)
	wantReveals(t, nil, b, 4)
	wantReveals(t, a, nil, 4)
	wantReveals(t, []api.FleetRow{shown("a", 0)}, []api.FleetRow{shown("a", 999, 7, 7)}, fleet.MaxLeast, "a")
	wantReveals(t, []api.FleetRow{shown("a", 0)}, []api.FleetRow{shown("a", 1000)}, fleet.MaxLeast)
	for _, least := range append(beyond(), 0, -1, fleet.MaxLeast+1) {
		wantWrong(t, fmt.Sprint("Reveals with ", least), results(fleet.Reveals(a, b, least)), api.ErrRange)
	}
}
