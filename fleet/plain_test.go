package fleet_test

import (
	"fmt"
	"math/big"
	"math/rand/v2"
	"slices"
	"strings"
	"testing"

	"orangebox/api"
	"orangebox/event"
)

// This file has random flights, rules and masks, and the plainest reading of the words of the document, with fractions of any size.

// someNames has the names of all tracks that random flights have and random rules need.
func someNames() []string {
	return []string{"a", "b", "c", "d"}
}

// someFlight has samples before its frames and behind them, too.
func someFlight(r *rand.Rand) api.Flight {
	f := flight(pick(r, "", "t", "u", "v"), pick(r, "r", "s"), r.IntN(40))
	f.From = r.IntN(4)
	f.To = f.From + r.IntN(9)
	for _, name := range someNames() {
		if r.IntN(4) > 0 {
			f.Tracks = append(f.Tracks, someTrack(r, name))
		}
	}
	r.Shuffle(len(f.Tracks), func(i, j int) { f.Tracks[i], f.Tracks[j] = f.Tracks[j], f.Tracks[i] })
	return f
}

func someTrack(r *rand.Rand, name string) api.Track {
	x := track(name, pick(r, 1, 1, 1, 2), pick(r, 0, 20, 63, 200))
	at := r.IntN(100)
	for range r.IntN(12) {
		s := api.Sample{At: at, Mark: pick(r, 0, 1, 2, 3, 3, 4, 4, 4, 4)}
		if s.Mark >= api.MarkDoubtful {
			s.N = pick(r, r.IntN(9)-4, r.IntN(9)-4, r.IntN(9)-4, most-r.IntN(9), r.IntN(9)-most)
		}
		x.Series.Samples = append(x.Series.Samples, s)
		at += 1 + r.IntN(100)
	}
	return x
}

func someFlights(r *rand.Rand) []api.Flight {
	return many(r.IntN(9), func(int) api.Flight { return someFlight(r) })
}

// sameDen is the flights with the same Den for all tracks.
func sameDen(l []api.Flight) []api.Flight {
	for _, f := range l {
		for i := range f.Tracks {
			f.Tracks[i].Series.Den = 3
		}
	}
	return l
}

func someMask(r *rand.Rand) api.Mask {
	m := api.Mask{Tails: r.IntN(4) == 0, Days: pick(r, 1, 1, 2, 7, 30, 50), Least: pick(r, 1, 1, 2, 3, 4)}
	for _, name := range someNames() {
		if r.IntN(5) == 0 {
			m.Hide = append(m.Hide, name)
		}
		if r.IntN(3) == 0 {
			m.Grains = append(m.Grains, grain(name, pick(r, 1, 2, 3, 5, most, most-1)))
		}
	}
	return m
}

// someRules have two phases and three rules.
func someRules(t *testing.T, r *rand.Rand) api.Rules {
	compare := func() string {
		return pick(r, someNames()...) + pick(r, " < ", " > ", " = ", " != ") + pick(r, "0", "2", "-1", "a", "b", "c", "d")
	}
	rule := func(name string) string {
		return "rule " + name + " if " + pick(r, "", "not ", "for 2 ", "within 2 ", "rises ") + "(" + compare() + pick(r, " and ", " or ") + pick(r, "true", "phase p", compare()) + ")\n"
	}
	text := "phase p\nphase q\nmove p q if " + compare() + "\nmove q p if " + compare() + "\n"
	return ruled(t, text+rule("x")+rule("y")+rule("z"))
}

// plainFloor steps down from a number to a multiple.
func plainFloor(n, step int) int {
	x := new(big.Int).Mod(big.NewInt(int64(n)), big.NewInt(int64(step))) // never negative
	return n - int(x.Int64())
}

func plainMasked(f api.Flight, m api.Mask) api.Flight {
	x := api.Flight{Tail: f.Tail, Route: f.Route, Day: plainFloor(f.Day, m.Days), From: f.From, To: f.To}
	if m.Tails {
		x.Tail = ""
	}
	for _, old := range f.Tracks {
		if slices.Contains(m.Hide, old.Name) {
			continue
		}
		made := track(old.Name, old.Series.Den, old.Long)
		for _, s := range old.Series.Samples {
			for _, g := range m.Grains {
				if g.Track == old.Name && s.Mark != api.MarkLost && s.Mark != api.MarkWrong {
					s.N = max(-most, plainFloor(s.N, g.N))
				}
			}
			made.Series.Samples = append(made.Series.Samples, s)
		}
		x.Tracks = append(x.Tracks, made)
	}
	return x
}

func plainPeak(f api.Flight, name string) (int, bool) {
	var numbers []int
	for _, x := range f.Tracks {
		for _, s := range x.Series.Samples {
			if x.Name == name && (s.Mark == api.MarkGood || s.Mark == api.MarkMended) && s.At/64 >= f.From && s.At/64 <= f.To {
				numbers = append(numbers, s.N)
			}
		}
	}
	if len(numbers) == 0 {
		return 0, false
	}
	return slices.Max(numbers), true
}

// completed has a track for each name that rules need.
func completed(f api.Flight, r api.Rules) []api.Track {
	l := slices.Clone(f.Tracks)
	names, _ := event.Tracks(r)
	for _, name := range names {
		if !slices.ContainsFunc(l, func(x api.Track) bool { return x.Name == name }) {
			l = append(l, track(name, 1, 0))
		}
	}
	return l
}

func plainEvents(t *testing.T, f api.Flight, r api.Rules) []int {
	t.Helper()
	l, e := event.Events(r, completed(f, r), f.From, f.To)
	wantErrno(t, "event.Events", e, api.OK)
	counts := make([]int, len(r.Rules))
	for _, x := range l {
		counts[x.Rule]++
	}
	return counts
}

func plainExceed(t *testing.T, f api.Flight, r api.Rules) [][]int {
	t.Helper()
	truths, e := event.Evaluate(r, completed(f, r), f.From, f.To)
	wantErrno(t, "event.Evaluate", e, api.OK)
	phases, e := event.Phases(r, completed(f, r), f.From, f.To)
	wantErrno(t, "event.Phases", e, api.OK)
	return many(len(r.Rules), func(rule int) []int {
		return many(len(r.Phases), func(phase int) int {
			frames := 0
			for i, possible := range phases {
				if truths[rule][i] == api.True && len(possible) == 1 && possible[0] == r.Phases[phase] {
					frames++
				}
			}
			return frames
		})
	})
}

func plainKey(f api.Flight, by int) string {
	return map[int]string{api.ByTail: f.Tail, api.ByRoute: f.Route, api.ByDay: fmt.Sprint(f.Day)}[by]
}

func plainTable(t *testing.T, l []api.Flight, r api.Rules, m api.Mask, by int) []api.FleetRow {
	t.Helper()
	var keys []string
	for _, f := range l {
		if key := plainKey(plainMasked(f, m), by); !slices.Contains(keys, key) {
			keys = append(keys, key)
		}
	}
	rows := many(len(keys), func(i int) api.FleetRow {
		row := api.FleetRow{Key: keys[i], Events: make([]int, len(r.Rules))}
		for _, f := range l {
			if f = plainMasked(f, m); plainKey(f, by) == row.Key {
				row.Flights++
				for i, n := range plainEvents(t, f, r) {
					row.Events[i] += n
				}
			}
		}
		return row
	})
	return plainHidden(rows, m.Least)
}

// plainHidden tries each number of flights for the row that is hidden as well.
func plainHidden(rows []api.FleetRow, least int) []api.FleetRow {
	hidden := 0
	for i, row := range rows {
		if row.Flights < least {
			rows[i] = api.FleetRow{Key: row.Key, Hidden: true}
			hidden++
		}
	}
	for flights := 0; hidden == 1 && len(rows) > 1; flights++ {
		for i, row := range rows {
			if hidden == 1 && !row.Hidden && row.Flights == flights {
				rows[i] = api.FleetRow{Key: row.Key, Hidden: true}
				hidden++
			}
		}
	}
	return rows
}

func plainPeaks(l []api.Flight, m api.Mask, name string) (peaks, numbers []int) {
	for i, f := range l {
		if n, ok := plainPeak(plainMasked(f, m), name); ok {
			peaks, numbers = append(peaks, n), append(numbers, i)
		}
	}
	return peaks, numbers
}

func plainQuantile(peaks []int, num, den int) int {
	rank := 1
	for rank*den < num*len(peaks) {
		rank++
	}
	return slices.Sorted(slices.Values(peaks))[rank-1]
}

func plainMean(numbers []int) *big.Rat {
	sum := new(big.Rat)
	for _, n := range numbers {
		sum.Add(sum, big.NewRat(int64(n), 1))
	}
	return sum.Quo(sum, big.NewRat(int64(len(numbers)), 1))
}

func plainTrend(days, counts []int) *big.Rat {
	up, across := new(big.Rat), new(big.Rat)
	for i := range days {
		d := new(big.Rat).Sub(big.NewRat(int64(days[i]), 1), plainMean(days))
		e := new(big.Rat).Sub(big.NewRat(int64(counts[i]), 1), plainMean(counts))
		up.Add(up, e.Mul(e, d))
		across.Add(across, d.Mul(d, d))
	}
	return up.Quo(up, across)
}

// ratio is ErrSize for a fraction beyond the limit.
func ratio(x *big.Rat) (api.Ratio, api.Errno) {
	limit := new(big.Int).Lsh(big.NewInt(1), 62)
	if x.Num().CmpAbs(limit) > 0 || x.Denom().Cmp(limit) > 0 {
		return api.Ratio{}, api.ErrSize
	}
	return api.Ratio{Num: int(x.Num().Int64()), Den: int(x.Denom().Int64())}, api.OK
}

func plainPrint(l []api.FleetRow) string {
	var b strings.Builder
	for _, row := range l {
		words := []string{"row", row.Key}
		if row.Key == "" {
			words[1] = "-"
		}
		if row.Hidden {
			words = append(words, "hidden")
		} else {
			words = append(words, fmt.Sprint(row.Flights))
			for _, n := range row.Events {
				words = append(words, fmt.Sprint(n))
			}
		}
		b.WriteString(strings.Join(words, " ") + "\n")
	}
	return b.String()
}
