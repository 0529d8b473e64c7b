package fleet_test

import (
	"fmt"
	"strconv"
	"testing"

	"orangebox/api"
	"orangebox/fleet"
)

func grain(track string, n int) api.Grain {
	return api.Grain{Track: track, N: n}
}

// I1: masks without errors, at their limits too.
func TestCheckMask(t *testing.T) {
	names := many(fleet.MaxTracks, func(i int) string { return "t" + strconv.Itoa(i) })
	grains := many(fleet.MaxTracks, func(i int) api.Grain { return grain(names[i], 1+i) })
	for name, m := range map[string]api.Mask{
		"the least":           open(),
		"the greatest":        {Tails: true, Days: fleet.MaxDay, Hide: names, Grains: grains, Least: fleet.MaxLeast},
		"a great grain":       {Days: 1, Grains: []api.Grain{grain("a", most)}, Least: 1},
		"a hidden grain":      {Days: 1, Hide: []string{"a"}, Grains: []api.Grain{grain("a", 1)}, Least: 1},
		"lists without names": {Days: 1, Hide: []string{}, Grains: []api.Grain{}, Least: 1},
	} {
		wantErrno(t, name, fleet.CheckMask(m), api.OK)
	}
}

// I1: each error of a mask, ahead of those that are asked for behind it.
func TestCheckMaskErrors(t *testing.T) {
	type m = api.Mask
	grains := func(l ...api.Grain) func(*m) {
		return func(x *m) { x.Grains = l }
	}
	hide := func(l ...string) func(*m) {
		return func(x *m) { x.Hide = l }
	}
	faults := []fault[m]{
		{"no days", func(x *m) { x.Days = 0 }, api.ErrRange},
		{"many days", func(x *m) { x.Days = fleet.MaxDay + 1 }, api.ErrRange},
		{"many names", func(x *m) { x.Hide = make([]string, fleet.MaxTracks+1) }, api.ErrSize},
		{"no name, then one twice", hide("a", "", "a"), api.ErrName},
		{"a name twice, then none", hide("a", "b", "a", ""), api.ErrTwice},
		{"no name", hide("a", "A"), api.ErrName},
		{"many grains", func(x *m) { x.Grains = make([]api.Grain, fleet.MaxTracks+1) }, api.ErrSize},
		{"no name of a grain, twice", grains(grain("A", 0), grain("A", 0)), api.ErrName},
		{"a grain twice, with no number", grains(grain("b", 1), grain("a", 1), grain("a", 0), grain("", 1)), api.ErrTwice},
		{"the first grain twice", grains(grain("a", 1), grain("a", 2)), api.ErrTwice},
		{"no grain, then one twice", grains(grain("a", 0), grain("a", 1)), api.ErrRange},
		{"a great grain", grains(grain("a", most+1)), api.ErrRange},
		{"no flights", func(x *m) { x.Least = 0 }, api.ErrRange},
		{"many flights", func(x *m) { x.Least = fleet.MaxLeast + 1 }, api.ErrRange},
	}
	wantInOrder(t, "CheckMask", open, func(x m) []any { return results(fleet.CheckMask(x)) }, faults)
	f := flight("t", "r", 5, framed("a", 1))
	wantInOrder(t, "Masked", open, func(x m) []any { return results(fleet.Masked(f, x)) }, faults)
	wantWrong(t, "Masked of both", results(fleet.Masked(wrongFlight(), m{})), api.ErrOrder)
	for _, b := range append(beyond(), 0, -1) {
		wantErrno(t, fmt.Sprint("days ", b), fleet.CheckMask(m{Days: b, Least: 1}), api.ErrRange)
		wantErrno(t, fmt.Sprint("least ", b), fleet.CheckMask(least(b)), api.ErrRange)
		wantErrno(t, fmt.Sprint("grain ", b), fleet.CheckMask(m{Days: 1, Grains: []api.Grain{grain("a", b)}, Least: 1}), api.ErrRange)
	}
	for _, name := range append(wrongNames(), "") {
		wantErrno(t, fmt.Sprintf("hide %q", name), fleet.CheckMask(m{Days: 1, Hide: []string{name}, Least: 1}), api.ErrName)
		wantErrno(t, fmt.Sprintf("grain of %q", name), fleet.CheckMask(m{Days: 1, Grains: []api.Grain{grain(name, 1)}, Least: 1}), api.ErrName)
	}
}

func maskedOf(t *testing.T, f api.Flight, m api.Mask) api.Flight {
	t.Helper()
	x, e := fleet.Masked(f, m)
	wantErrno(t, "Masked", e, api.OK)
	return x
}

// I1
func TestMasked(t *testing.T) {
	f := api.Flight{Tail: "t", Route: "r", Day: 29, From: 3, To: 8, Tracks: []api.Track{
		track("a", 10, 5, good(0, 19), good(1, 20), mended(2, 21), doubtful(3, 9), wrong(4), lost(5), good(6, -1), good(7, -20), good(8, -21), good(9, 0)),
		track("b", 2, 7, good(0, 19)),
		track("c", 3, 9, good(0, 18)),
	}}
	wantSame(t, "under an open mask", maskedOf(t, f, open()), f)
	m := api.Mask{Tails: true, Days: 7, Hide: []string{"b", "x"}, Grains: []api.Grain{grain("y", 5), grain("a", 20), grain("b", 3)}, Least: 1000}
	wantSame(t, "under a mask", maskedOf(t, f, m), api.Flight{Route: "r", Day: 28, From: 3, To: 8, Tracks: []api.Track{
		track("a", 10, 5, good(0, 0), good(1, 20), mended(2, 20), doubtful(3, 0), wrong(4), lost(5), good(6, -20), good(7, -20), good(8, -40), good(9, 0)),
		track("c", 3, 9, good(0, 18)),
	}})
	wantSame(t, "without tracks", maskedOf(t, flight("", "r", 0), m), flight("", "r", 0))
	for days, want := range map[int]int{1: 29, 2: 28, 29: 29, 30: 0, fleet.MaxDay: 0} {
		wantSame(t, fmt.Sprint("Day in steps of ", days), maskedOf(t, f, api.Mask{Days: days, Least: 1}).Day, want)
	}
	f.Day = fleet.MaxDay
	wantSame(t, "the last day", maskedOf(t, f, api.Mask{Days: fleet.MaxDay, Least: 1}).Day, fleet.MaxDay)
}

// I1: numbers that would be below all that can be.
func TestMaskedAtTheEnd(t *testing.T) {
	for _, c := range [][3]int{
		{-1, most, -most}, {-most, most, -most}, {most, most, most}, {most - 1, most, 0}, {0, most, 0},
		{-most, most - 1, -most}, {-most + 1, most - 1, -most + 1}, {-2, most - 1, -most + 1}, {most, most - 1, most - 1},
		{-most, 3, -most}, {-most + 1, 3, -most + 1}, {-most + 2, 3, -most + 1}, {-most + 3, 3, -most + 1}, {-most, 1, -most}, {most, 1, most}, {most, 3, most - 1},
	} {
		f := flight("", "r", 0, track("a", 1, 0, good(0, c[0])))
		m := api.Mask{Days: 1, Grains: []api.Grain{grain("a", c[1])}, Least: 1}
		wantSame(t, fmt.Sprint(c[0], " in steps of ", c[1]), maskedOf(t, f, m).Tracks[0].Series.Samples[0].N, c[2])
	}
}

// I1: masked flights are those of the plainest reading, are flights themselves, and stay under the same mask.
func TestMaskedIsPlain(t *testing.T) {
	r := dice(2)
	for range 1000 {
		f, m := someFlight(r), someMask(r)
		x := maskedOf(t, f, m)
		wantSame(t, fmt.Sprint("Masked of ", f, " under ", m), x, plainMasked(f, m))
		wantErrno(t, "CheckFlight", fleet.CheckFlight(x), api.OK)
		wantSame(t, "Masked again", maskedOf(t, x, m), x)
	}
}
