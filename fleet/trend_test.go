package fleet_test

import (
	"fmt"
	"math/big"
	"testing"

	"orangebox/api"
	"orangebox/fleet"
)

// often is a flight with so many events of the rule up.
func often(day, events int) api.Flight {
	f := flight("", "r", day, track("a", 1, 63))
	for i := range events {
		f.Tracks[0].Series.Samples = append(f.Tracks[0].Series.Samples, good(128*i, 1), lost(128*i+64))
	}
	f.To = max(2*events-1, 0)
	return f
}

func wantTrend(t *testing.T, name string, l []api.Flight, m api.Mask, want *big.Rat) {
	t.Helper()
	trend, e := fleet.Trend(l, ruled(t, "rule other if true\nrule up if a > 0"), m, "up")
	wantRatio(t, name, trend, e, want)
}

// I4
func TestTrend(t *testing.T) {
	for _, c := range []struct {
		l    []api.Flight
		want *big.Rat
	}{
		{[]api.Flight{often(1, 2), often(2, 5)}, big.NewRat(3, 1)},
		{[]api.Flight{often(2, 5), often(1, 2)}, big.NewRat(3, 1)},
		{[]api.Flight{often(1, 5), often(3, 2)}, big.NewRat(-3, 2)},
		{[]api.Flight{often(1, 4), often(9, 4), often(4, 4)}, big.NewRat(0, 1)},
		{[]api.Flight{often(0, 0), often(1, 1), often(2, 1)}, big.NewRat(1, 2)},
		{[]api.Flight{often(5, 9), often(5, 3), often(6, 0)}, big.NewRat(-6, 1)},
		{[]api.Flight{often(0, 0), often(fleet.MaxDay, 3)}, big.NewRat(3, fleet.MaxDay)},
		{[]api.Flight{often(0, fleet.MaxFrames/2), often(1, 0)}, big.NewRat(-fleet.MaxFrames/2, 1)},
	} {
		wantTrend(t, fmt.Sprint("Trend of ", len(c.l)), c.l, open(), c.want)
	}
}

// I4: a trend goes by masked days and masked tracks.
func TestTrendUnderMasks(t *testing.T) {
	l := []api.Flight{often(1, 2), often(3, 1), often(4, 3), often(9, 9)}
	wantTrend(t, "days", l, api.Mask{Days: 4, Least: 4}, plainTrend([]int{0, 0, 4, 8}, []int{2, 1, 3, 9}))
	wantTrend(t, "a hidden track", l, api.Mask{Days: 1, Hide: []string{"a"}, Least: 4}, big.NewRat(0, 1))
	wantTrend(t, "grains", l, api.Mask{Days: 1, Grains: []api.Grain{grain("a", 2)}, Least: 4}, big.NewRat(0, 1))
	rules := ruled(t, "rule up if a > 0")
	wantWrong(t, "Trend of equal days", results(fleet.Trend(l, rules, api.Mask{Days: 10, Least: 4}, "up")), api.ErrEmpty)
	wantWrong(t, "Trend of few", results(fleet.Trend(l, rules, api.Mask{Days: 10, Least: 5}, "up")), api.ErrNone)
	wantWrong(t, "Trend of one", results(fleet.Trend(l[:1], rules, open(), "up")), api.ErrEmpty)
}

// I4: sums at their greatest.
func TestTrendOfMany(t *testing.T) {
	l := many(fleet.MaxFlights, func(i int) api.Flight { return often(fleet.MaxDay*(i%2), i%7) })
	l[0] = often(0, fleet.MaxFrames/2)
	days := many(len(l), func(i int) int { return l[i].Day })
	counts := many(len(l), func(i int) int { return i % 7 })
	counts[0] = fleet.MaxFrames / 2
	wantTrend(t, "many flights", l, open(), plainTrend(days, counts))
	for i := range l {
		l[i] = often(fleet.MaxDay-i/299, i%9+500)
		days[i], counts[i] = l[i].Day, i%9+500
	}
	wantTrend(t, "late flights", l, open(), plainTrend(days, counts))
}

// I4: trends are those of the plainest reading.
func TestTrendIsPlain(t *testing.T) {
	r := dice(7)
	for range 500 {
		l, rules, m := someFlights(r), someRules(t, r), someMask(r)
		var days, counts []int
		equal := true
		for _, f := range l {
			f = plainMasked(f, m)
			days, counts = append(days, f.Day), append(counts, plainEvents(t, f, rules)[1])
			equal = equal && f.Day == days[0]
		}
		trend, e := fleet.Trend(l, rules, m, "y")
		switch {
		case len(l) < m.Least:
			wantErrno(t, "Trend", e, api.ErrNone)
		case equal:
			wantErrno(t, "Trend", e, api.ErrEmpty)
		default:
			wantRatio(t, "Trend", trend, e, plainTrend(days, counts))
		}
	}
}
