package fleet_test

import (
	"fmt"
	"strings"
	"testing"

	"orangebox/api"
	"orangebox/event"
	"orangebox/fleet"
)

// I1 to I4: the limits are those that the document names.
func TestLimits(t *testing.T) {
	wantSame(t, "limits",
		[]int{fleet.MaxFlights, fleet.MaxTracks, fleet.MaxRows, fleet.MaxFrames, fleet.MaxDay, fleet.MaxLeast, fleet.MaxFactor},
		[]int{300, 30, 300, 20000, 1000000, 1000, 1000})
}

// I1: flights without errors, at their limits too.
func TestCheckFlight(t *testing.T) {
	for name, f := range map[string]api.Flight{
		"the least":          flight("", "r", 0),
		"with a tail":        flight("t-1", "a-b", 3, framed("a", 1, 2)),
		"long names":         flight(strings.Repeat("t", 30), strings.Repeat("r", 30), 1),
		"the last day":       flight("t", "r", fleet.MaxDay),
		"one frame":          {Route: "r", From: 7, To: 7},
		"the last frame":     {Route: "r", From: api.Number - 1, To: api.Number - 1},
		"many frames":        {Route: "r", From: 5, To: 5 + fleet.MaxFrames - 1},
		"many tracks":        flight("", "r", 0, named(fleet.MaxTracks)...),
		"samples elsewhere":  {Route: "r", From: 1000, To: 1001, Tracks: []api.Track{framed("a", 1, 2)}},
		"a track of nothing": flight("", "r", 0, track("a", 5, 0)),
	} {
		wantErrno(t, name, fleet.CheckFlight(f), api.OK)
	}
}

// flightFaults are those of a flight, in their order.
func flightFaults() []fault[api.Flight] {
	type f = api.Flight
	return []fault[f]{
		{"a tail that is no name", func(x *f) { x.Tail = "T" }, api.ErrName},
		{"no route", func(x *f) { x.Route = "" }, api.ErrName},
		{"a negative day", func(x *f) { x.Day = -1 }, api.ErrRange},
		{"a late day", func(x *f) { x.Day = fleet.MaxDay + 1 }, api.ErrRange},
		{"a negative frame", func(x *f) { x.From = -1 }, api.ErrRange},
		{"an end before the beginning", func(x *f) { x.From, x.To = 3, 2 }, api.ErrRange},
		{"a late end", func(x *f) { x.To = api.Number }, api.ErrRange},
		{"many frames", func(x *f) { x.From, x.To = 7, 7+fleet.MaxFrames }, api.ErrSize},
		{"many tracks", func(x *f) { x.Tracks = named(fleet.MaxTracks + 1) }, api.ErrSize},
		{"a track without a name", func(x *f) { x.Tracks = []api.Track{framed("", 1)} }, api.ErrName},
		{"a track twice", func(x *f) { x.Tracks = []api.Track{framed("a"), framed("a")} }, api.ErrTwice},
		{"a track that falls back", func(x *f) { x.Tracks = wrongFlight().Tracks }, api.ErrOrder},
		{"a track that is held for less than nothing", func(x *f) { x.Tracks = []api.Track{track("a", 1, -1)} }, api.ErrRange},
	}
}

// I1: each error of a flight, ahead of those that are asked for behind it.
func TestCheckFlightErrors(t *testing.T) {
	base := func() api.Flight { return flight("t", "r", 5, framed("b", 1, 2)) }
	check := func(f api.Flight) []any { return results(fleet.CheckFlight(f)) }
	wantInOrder(t, "CheckFlight", base, check, flightFaults())
	wantInOrder(t, "Masked", base, func(f api.Flight) []any { return results(fleet.Masked(f, open())) }, flightFaults())
	wantInOrder(t, "Peak", base, func(f api.Flight) []any { return results(fleet.Peak(f, "b")) }, flightFaults())
	for _, name := range wrongNames() {
		wantErrno(t, fmt.Sprintf("tail %q", name), fleet.CheckFlight(flight(name, "r", 0)), api.ErrName)
		wantErrno(t, fmt.Sprintf("route %q", name), fleet.CheckFlight(flight("", name, 0)), api.ErrName)
	}
	for _, b := range beyond() {
		wantErrno(t, fmt.Sprint("day ", b), fleet.CheckFlight(flight("", "r", b)), api.ErrRange)
		wantErrno(t, fmt.Sprint("from ", b), fleet.CheckFlight(api.Flight{Route: "r", From: b}), api.ErrRange)
		wantErrno(t, fmt.Sprint("to ", b), fleet.CheckFlight(api.Flight{Route: "r", To: b}), api.ErrRange)
		wantErrno(t, fmt.Sprint("from and to ", b), fleet.CheckFlight(api.Flight{Route: "r", From: b, To: b}), api.ErrRange)
	}
	wantErrno(t, "all tracks of chapter 6", fleet.CheckFlight(flight("", "r", 0, named(event.MaxTracks)...)), api.ErrSize)
	wantErrno(t, "more than those", fleet.CheckFlight(flight("", "r", 0, named(event.MaxTracks+1)...)), api.ErrSize)
}

func wantPeak(t *testing.T, f api.Flight, name string, want int, ok bool) {
	t.Helper()
	n, is, e := fleet.Peak(f, name)
	wantErrno(t, "Peak", e, api.OK)
	wantSame(t, fmt.Sprint("Peak of ", name, " in ", f), []any{n, is}, []any{want, ok})
}

// I1
func TestPeak(t *testing.T) {
	f := flight("", "r", 0,
		track("a", 7, 0, good(127, 90), good(128, 5), mended(200, 8), doubtful(201, 80), wrong(202), lost(203), good(319, 7), good(320, 70)),
		track("b", 1, 0, mended(128, -5), good(200, -3), good(319, -4)),
		track("c", 1, 0, doubtful(130, 5), wrong(131), lost(132)),
		track("d", 1, 0, good(127, 5), good(320, 5)),
		track("e", 1, 1000, good(127, 5)),
		track("f", 1, 0),
		track("g", 1, 0, mended(319, 0)),
		track("h", 1, 0, good(128, -most)),
	)
	f.From, f.To = 2, 4
	for name, want := range map[string]int{"a": 8, "b": -3, "g": 0, "h": -most} {
		wantPeak(t, f, name, want, true)
	}
	for _, name := range []string{"c", "d", "e", "f", "z"} {
		wantPeak(t, f, name, 0, false)
	}
	wantPeak(t, flight("", "r", 0), "a", 0, false)
	last := api.Flight{Route: "r", From: api.Number - 1, To: api.Number - 1}
	end := api.Ticks * api.Number
	last.Tracks = []api.Track{track("a", 1, 0, good(end-65, 9), good(end-64, 3), good(end-1, 2), good(end, 8))}
	wantPeak(t, last, "a", 3, true)
	for _, name := range append(wrongNames(), "") {
		wantWrong(t, fmt.Sprintf("Peak of %q", name), results(fleet.Peak(f, name)), api.ErrName)
		wantWrong(t, "Peak in a wrong flight", results(fleet.Peak(wrongFlight(), name)), api.ErrOrder)
	}
}

// I1: peaks are those of the plainest reading.
func TestPeakIsPlain(t *testing.T) {
	r := dice(1)
	for range 500 {
		f := someFlight(r)
		for _, name := range someNames() {
			want, ok := plainPeak(f, name)
			wantPeak(t, f, name, want, ok)
		}
	}
}
