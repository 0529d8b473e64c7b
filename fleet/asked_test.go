package fleet_test

import (
	"testing"

	"orangebox/api"
	"orangebox/fleet"
)

// asked has the arguments of all functions with flights.
type asked struct {
	f                    api.Flight
	l, other             []api.Flight
	rules                api.Rules
	mask                 api.Mask
	track, rule          string
	by, num, den, factor int
}

func (x asked) table() []any    { return results(fleet.Table(x.l, x.rules, x.mask, x.by)) }
func (x asked) quantile() []any { return results(fleet.Quantile(x.l, x.mask, x.track, x.num, x.den)) }
func (x asked) mean() []any     { return results(fleet.Mean(x.l, x.mask, x.track)) }
func (x asked) trend() []any    { return results(fleet.Trend(x.l, x.rules, x.mask, x.rule)) }
func (x asked) apart() []any    { return results(fleet.Apart(x.l, x.other, x.mask, x.track)) }
func (x asked) odd() []any      { return results(fleet.Odd(x.l, x.mask, x.track, x.factor)) }

// fine has no error for any function.
func fine(t *testing.T) asked {
	return asked{
		l:     []api.Flight{flown(1, 5, 15, 5), flown(2, 12, 3, 14), flown(3)},
		other: []api.Flight{flown(1, 7), flown(1, 8)},
		rules: ruled(t, "rule high if a > 10"),
		mask:  least(2),
		track: "a", rule: "high", by: api.ByNothing, num: 1, den: 2, factor: 2,
	}
}

// numberFaults are those of a function of peaks.
func numberFaults() []fault[asked] {
	return []fault[asked]{
		{"many flights", func(x *asked) { x.l = make([]api.Flight, fleet.MaxFlights+1) }, api.ErrSize},
		{"a flight without a route", func(x *asked) { x.l = []api.Flight{flown(1, 2), {}, wrongFlight()} }, api.ErrName},
		{"a wrong flight", func(x *asked) { x.l = []api.Flight{wrongFlight(), {}} }, api.ErrOrder},
		{"a wrong mask", func(x *asked) { x.mask = api.Mask{} }, api.ErrRange},
		{"no name", func(x *asked) { x.track = "A" }, api.ErrName},
		{"a track that is not there", func(x *asked) { x.track = "z" }, api.ErrNone},
		{"fewer peaks than flights", func(x *asked) { x.mask.Least = 3 }, api.ErrNone},
		{"another Den", func(x *asked) { x.l[1].Tracks[0].Series.Den = 7 }, api.ErrForm},
	}
}

// with is further faults behind some.
func with(l []fault[asked], further ...fault[asked]) []fault[asked] {
	return append(l, further...)
}

// I4: each error, ahead of those that are asked for behind it.
func TestNumberErrors(t *testing.T) {
	base := func() asked { return fine(t) }
	wantInOrder(t, "Mean", base, asked.mean, numberFaults())
	wantInOrder(t, "Quantile", base, asked.quantile, with(numberFaults(),
		fault[asked]{"a share above 1", func(x *asked) { x.num = 3 }, api.ErrRange},
		fault[asked]{"a negative share", func(x *asked) { x.num = -1 }, api.ErrRange},
		fault[asked]{"no share", func(x *asked) { x.num, x.den = 0, 0 }, api.ErrRange},
		fault[asked]{"many shares", func(x *asked) { x.den = 1000001 }, api.ErrRange},
	))
	wantInOrder(t, "Odd", base, asked.odd, with(numberFaults(),
		fault[asked]{"no factor", func(x *asked) { x.factor = 0 }, api.ErrRange},
		fault[asked]{"a great factor", func(x *asked) { x.factor = fleet.MaxFactor + 1 }, api.ErrRange},
	))
	for _, b := range append(beyond(), -1, 0) {
		x := fine(t)
		x.factor = b
		wantWrong(t, "Odd", x.odd(), api.ErrRange)
		x.num, x.den = b, b
		wantWrong(t, "Quantile", x.quantile(), api.ErrRange)
		x.num = 0
		wantWrong(t, "Quantile", x.quantile(), api.ErrRange)
	}
}

// I4: all of a, then all of b, then both of them together.
func TestApartErrors(t *testing.T) {
	l := numberFaults()
	behind := []fault[asked]{
		{"many other flights", func(x *asked) { x.other = make([]api.Flight, fleet.MaxFlights+1) }, api.ErrSize},
		{"another flight without a route", func(x *asked) { x.other = []api.Flight{flown(1, 2), {}, wrongFlight()} }, api.ErrName},
		{"another wrong flight", func(x *asked) { x.other = []api.Flight{wrongFlight(), {}} }, api.ErrOrder},
	}
	faults := with(with(l[:3:3], behind...), l[3:7]...)
	faults = with(faults,
		fault[asked]{"fewer other peaks", func(x *asked) { x.other = x.other[:1] }, api.ErrNone},
		l[7],
		fault[asked]{"other Dens", func(x *asked) { x.other[0].Tracks[0].Series.Den, x.other[1].Tracks[0].Series.Den = 7, 7 }, api.ErrForm},
		fault[asked]{"another Den there", func(x *asked) { x.other[1].Tracks[0].Series.Den = 7 }, api.ErrForm},
		fault[asked]{"a great mean", func(x *asked) {
			x.l = many(103, func(i int) api.Flight { return flown(0, most-i/102) })
			x.other = many(101, func(i int) api.Flight { return flown(0, i/100-most) })
		}, api.ErrSize},
	)
	wantInOrder(t, "Apart", func() asked { return fine(t) }, asked.apart, faults[:len(faults)-1])
	wantInOrder(t, "Apart", func() asked { return fine(t) }, asked.apart, faults[len(faults)-1:])
}

// I3, I4: functions with lists of flights, rules and masks.
func TestRuledErrors(t *testing.T) {
	l := numberFaults()
	faults := with(l[:3:3], fault[asked]{"wrong rules", func(x *asked) { x.rules = wrongRules() }, api.ErrTwice}, l[3])
	wantInOrder(t, "Table", func() asked { return fine(t) }, asked.table, with(faults[:5:5],
		fault[asked]{"no kind", func(x *asked) { x.by = 0 }, api.ErrKind},
		fault[asked]{"a kind beyond", func(x *asked) { x.by = api.ByDay + 1 }, api.ErrKind},
	))
	wantInOrder(t, "Trend", func() asked { return fine(t) }, asked.trend, with(faults[:5:5],
		fault[asked]{"no such rule", func(x *asked) { x.rule = "a" }, api.ErrNone},
		fault[asked]{"a rule without a name", func(x *asked) { x.rule = "" }, api.ErrNone},
		fault[asked]{"few flights", func(x *asked) { x.mask.Least = 4 }, api.ErrNone},
		fault[asked]{"one day", func(x *asked) { x.l[0].Day, x.l[1].Day = 3, 3 }, api.ErrEmpty},
	))
	for _, b := range append(beyond(), -1) {
		x := fine(t)
		x.by = b
		wantWrong(t, "Table", x.table(), api.ErrKind)
	}
}

// I3, I4: without flights there are rows of none, and no numbers.
func TestWithoutFlights(t *testing.T) {
	x := fine(t)
	x.l, x.mask = nil, open()
	rows, e := fleet.Table(nil, x.rules, x.mask, api.ByDay)
	wantErrno(t, "Table", e, api.OK)
	wantSame(t, "Table", rows, []api.FleetRow{})
	for name, call := range map[string]func(asked) []any{"quantile": asked.quantile, "mean": asked.mean, "trend": asked.trend, "apart": asked.apart, "odd": asked.odd} {
		wantWrong(t, name, call(x), api.ErrNone)
	}
	x.l, x.other = fine(t).l, nil
	wantWrong(t, "apart of none", x.apart(), api.ErrNone)
}
