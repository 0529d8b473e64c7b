package fleet_test

import (
	"fmt"
	"strings"
	"testing"

	"orangebox/api"
	"orangebox/event"
	"orangebox/fleet"
)

func wantEvents(t *testing.T, f api.Flight, r api.Rules, want ...int) {
	t.Helper()
	l, e := fleet.Events(f, r)
	wantErrno(t, "Events", e, api.OK)
	wantSame(t, fmt.Sprint("Events of ", f), l, want)
}

func wantExceed(t *testing.T, f api.Flight, r api.Rules, want ...[]int) {
	t.Helper()
	l, e := fleet.Exceed(f, r)
	wantErrno(t, "Exceed", e, api.OK)
	wantSame(t, fmt.Sprint("Exceed of ", f), l, want)
}

const phased = `phase low
phase up
move low up if a > 4
move up low if a < 0
`

// I2
func TestEvents(t *testing.T) {
	r := ruled(t, "rule high if a > 10\nrule never if false\nrule always if true\nrule low if not rule high")
	wantEvents(t, flown(0, 11, 3, 12, 13, 4, 14), r, 3, 0, 1, 2)
	wantEvents(t, flown(0, 3), r, 0, 0, 1, 1)
	wantEvents(t, flown(0), r, 0, 0, 1, 0)
	f := flown(0, 11, 3, 12, 13, 4, 14)
	f.From, f.To = 3, 4
	wantEvents(t, f, r, 1, 0, 1, 1)
	f.From, f.To = 6, 8
	wantEvents(t, f, r, 0, 0, 1, 0)
	f.From, f.To = 1, 1
	wantEvents(t, f, r, 0, 0, 1, 1)
	wantEvents(t, f, api.Rules{})
	gap := flight("", "r", 0, track("a", 1, 63, good(0, 11), lost(64), good(128, 12)))
	gap.To = 2
	wantEvents(t, gap, r, 2, 0, 1, 0)
}

// I2: a rule goes by what is known from the first frame of the flight on.
func TestEventsFromTheFirstFrame(t *testing.T) {
	r := ruled(t, phased+"rule two if for 2 a > 0\nrule up if phase up\nrule climb if rises a > 4")
	f := flown(0, 5, 6, 7, -1, 5, 5)
	wantEvents(t, f, r, 2, 2, 1)
	f.From = 1
	wantEvents(t, f, r, 2, 2, 1)
	f.From, f.To = 2, 3
	wantEvents(t, f, r, 0, 1, 0)
}

// I2: the frames in which a rule is true, by the phase, where it is certain.
func TestExceed(t *testing.T) {
	r := ruled(t, phased+"rule much if a > 2\nrule known if a < 100\nrule always if true")
	f := flight("", "r", 0, track("a", 1, 63, good(0, 3), good(64, 3), good(128, 5), good(192, 1), lost(256), good(320, 7), good(384, -1)))
	f.To = 6
	wantExceed(t, f, r, []int{2, 2}, []int{3, 3}, []int{3, 3}) // between 256 and 319 both phases are possible
	f.From, f.To = 3, 3
	wantExceed(t, f, r, []int{0, 0}, []int{1, 0}, []int{1, 0})
	wantExceed(t, f, ruled(t, "rule always if true\nrule never if false"), nil, nil)
	wantExceed(t, f, ruled(t, phased))
	wantExceed(t, f, api.Rules{})
}

// I2: tracks that are missing are as without samples, whichever these are.
func TestMissingTracks(t *testing.T) {
	r := ruled(t, phased+"rule more if a > b\nrule less if a <= b\nrule calm if not steady b 0 2\nrule some if a > 0 or b > 0\nrule none if a < 0 and c > d")
	f := flown(0, 1, 0, 5, 5)
	wantEvents(t, f, r, 0, 0, 0, 2, 0)
	wantExceed(t, f, r, []int{0, 0}, []int{0, 0}, []int{0, 0}, []int{1, 2}, []int{0, 0})
	f.Tracks = nil
	wantEvents(t, f, r, 0, 0, 0, 0, 0)
	f.Tracks = []api.Track{framed("x", 5), framed("b", 1, 0, 5, 5)}
	wantEvents(t, f, r, 0, 0, 1, 2, 0)
	f.Tracks = []api.Track{framed("d", 5), framed("c", 7), framed("a", -1)}
	wantEvents(t, f, r, 0, 0, 0, 0, 1)
}

// I2: a flight has fewer tracks than rules can need.
func TestManyMissingTracks(t *testing.T) {
	var text strings.Builder
	for i := range event.MaxRules {
		fmt.Fprintf(&text, "rule r%d if m%d > n%d or t%d >= 0\n", i, i, i, i)
	}
	r := ruled(t, text.String())
	f := flight("", "r", 0, named(fleet.MaxTracks)...)
	want := make([]int, event.MaxRules)
	for i := range fleet.MaxTracks {
		want[i] = 1
	}
	wantEvents(t, f, r, want...)
	f.Tracks = nil
	wantEvents(t, f, r, make([]int, event.MaxRules)...)
}

// I2: as many frames as a flight can have.
func TestManyFrames(t *testing.T) {
	r := ruled(t, "phase p\nrule all if true\nrule last if a = 3\nrule two if for 2 true")
	f := flight("", "r", 0, track("a", 1, 0, good(api.Ticks*api.Number-1, 3)))
	f.From, f.To = api.Number-fleet.MaxFrames, api.Number-1
	wantEvents(t, f, r, 1, 1, 1)
	wantExceed(t, f, r, []int{fleet.MaxFrames}, []int{1}, []int{fleet.MaxFrames - 1})
}

// I2: events and frames are those of the plainest reading.
func TestEventsArePlain(t *testing.T) {
	r := dice(3)
	some := false
	for range 1500 {
		f, rules := someFlight(r), someRules(t, r)
		want := plainEvents(t, f, rules)
		some = some || want[0] > 1
		wantEvents(t, f, rules, want...)
		wantExceed(t, f, rules, plainExceed(t, f, rules)...)
	}
	wantSame(t, "several events", some, true)
}

// I2: errors of flights first, then those of rules.
func TestEventsErrors(t *testing.T) {
	base := func() asked {
		return asked{f: flown(0, 1, 2), rules: ruled(t, "rule x if a > 1")}
	}
	faults := []fault[asked]{
		{"a wrong flight", func(x *asked) { x.f = wrongFlight() }, api.ErrOrder},
		{"wrong rules", func(x *asked) { x.rules = wrongRules() }, api.ErrTwice},
	}
	wantInOrder(t, "Events", base, func(x asked) []any { return results(fleet.Events(x.f, x.rules)) }, faults)
	wantInOrder(t, "Exceed", base, func(x asked) []any { return results(fleet.Exceed(x.f, x.rules)) }, faults)
}
