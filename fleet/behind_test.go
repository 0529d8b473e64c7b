package fleet_test

import (
	"fmt"
	"math/rand/v2"
	"slices"
	"testing"

	"orangebox/api"
)

// another is a flight that is the same under a mask, and another one without it.
func another(r *rand.Rand, f api.Flight, m api.Mask) api.Flight {
	f.Day = plainFloor(f.Day, m.Days) + r.IntN(m.Days)
	if m.Tails {
		f.Tail = pick(r, "", "t", "w")
	}
	tracks := slices.DeleteFunc(slices.Clone(f.Tracks), func(x api.Track) bool { return slices.Contains(m.Hide, x.Name) })
	for _, name := range m.Hide {
		if r.IntN(2) == 0 {
			tracks = slices.Insert(tracks, r.IntN(len(tracks)+1), someTrack(r, name))
		}
	}
	f.Tracks = nil
	for _, x := range tracks {
		f.Tracks = append(f.Tracks, anotherTrack(r, x, m))
	}
	return f
}

func anotherTrack(r *rand.Rand, x api.Track, m api.Mask) api.Track {
	x.Series.Samples = slices.Clone(x.Series.Samples)
	for _, g := range m.Grains {
		for i, s := range x.Series.Samples {
			if g.Track == x.Name && s.Mark >= api.MarkDoubtful {
				low := plainFloor(s.N, g.N)
				high := min(low+g.N-1, most)
				low = max(low, -most)
				x.Series.Samples[i].N = low + r.IntN(high-low+1)
			}
		}
	}
	return x
}

// I1 to I4: what a mask hides changes nothing that is told under it.
func TestWhatIsBehindMasks(t *testing.T) {
	r := dice(9)
	differ := 0
	for range 500 {
		l, m := someFlights(r), someMask(r)
		other := many(len(l), func(i int) api.Flight { return another(r, l[i], m) })
		for i := range l {
			wantSame(t, "Masked", maskedOf(t, other[i], m), maskedOf(t, l[i], m))
		}
		if fmt.Sprint(l) != fmt.Sprint(other) {
			differ++
		}
		x := fine(t)
		x.rules, x.mask, x.rule = someRules(t, r), m, "y"
		x.by, x.track = pick(r, api.ByNothing, api.ByTail, api.ByRoute, api.ByDay), pick(r, someNames()...)
		y := x
		x.l, y.l = l, other
		x.other, y.other = other, l
		for name, call := range map[string]func(asked) []any{
			"Table": asked.table, "Quantile": asked.quantile, "Mean": asked.mean, "Trend": asked.trend, "Apart": asked.apart, "Odd": asked.odd,
		} {
			wantSame(t, fmt.Sprint(name, " of ", l, " and ", other, " under ", m), call(x), call(y))
		}
	}
	if differ < 300 {
		t.Errorf("%d lists differ", differ)
	}
}

// I3: with the total under the same mask nobody finds a row that is hidden: what is missing is of at least two of them, or of all.
func TestHiddenRowsTogether(t *testing.T) {
	r := dice(10)
	for range 300 {
		rows := tableOf(t, someFlights(r), api.Rules{}, least(1+r.IntN(4)), pick(r, api.ByTail, api.ByRoute, api.ByDay))
		hidden := 0
		for _, row := range rows {
			if row.Hidden {
				hidden++
			}
		}
		if hidden == 1 && len(rows) > 1 {
			t.Errorf("one row alone is hidden in %v", rows)
		}
	}
}
