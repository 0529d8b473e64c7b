package panel_test

import (
	"math"
	"math/rand/v2"
	"reflect"
	"strconv"
	"strings"
	"testing"

	"orangebox/api"
	"orangebox/panel"
)

// dice gives the same numbers in each run.
func dice(seed uint64) *rand.Rand {
	return rand.New(rand.NewPCG(seed, 8))
}

func pick[T any](r *rand.Rand, l ...T) T {
	return l[r.IntN(len(l))]
}

func many[T any](count int, f func(i int) T) []T {
	var l []T
	for i := range count {
		l = append(l, f(i))
	}
	return l
}

// most is the greatest number that a sample can have.
const most = 1 << 50

// beyond has numbers that are in no range of the document.
func beyond() []int {
	return []int{math.MinInt, math.MinInt + 1, -1<<62 - 1, -most - 1, most + 1, 1<<62 + 1, math.MaxInt - 1, math.MaxInt}
}

// wrongNames has texts that are no names of instruments.
func wrongNames() []string {
	return []string{"", strings.Repeat("a", 31), "A", "aB", "a b", " a", "a ", "a_b", "a.b", "a\x00", "a\n", "\u00e4", "\xff", "a`", "a{", "a/", "a:", "a,"}
}

// rightNames has names of instruments, among them some that no track can have.
func rightNames() []string {
	return []string{"a", "z", "0", "9", "-", "1a", "-a", "a-1-", "rule", "if", strings.Repeat("z", 30), strings.Repeat("-", 30)}
}

func wantErrno(t *testing.T, name string, got, want api.Errno) {
	t.Helper()
	if got != want {
		t.Errorf("%s: error %d, want %d", name, got, want)
	}
}

// wantSame takes an empty list for nil.
func wantSame(t *testing.T, name string, got, want any) {
	t.Helper()
	g, w := reflect.ValueOf(got), reflect.ValueOf(want)
	if g.Kind() == reflect.Slice && w.Kind() == reflect.Slice && g.Len() == 0 && w.Len() == 0 {
		return
	}
	if !reflect.DeepEqual(got, want) {
		t.Errorf("%s: got %v, want %v", name, got, want)
	}
}

// wantNothing wants zero values, or empty lists.
func wantNothing(t *testing.T, name string, results ...any) {
	t.Helper()
	for _, r := range results {
		v := reflect.ValueOf(r)
		if !v.IsZero() && (v.Kind() != reflect.Slice || v.Len() > 0) {
			t.Errorf("%s: got %v, want nothing", name, r)
		}
	}
}

// results makes a list of what a function returns.
func results(l ...any) []any {
	return l
}

// wantWrong wants an error behind results that are nothing.
func wantWrong(t *testing.T, name string, l []any, want api.Errno) {
	t.Helper()
	last := len(l) - 1
	wantErrno(t, name, l[last].(api.Errno), want)
	wantNothing(t, name, l[:last]...)
}

// Panels.

func digits(name string, places int) api.Instrument {
	return api.Instrument{Kind: api.ShowDigits, Name: name, Track: "a", Places: places}
}

func dial(name string, low, high, steps int, zones ...api.Zone) api.Instrument {
	return api.Instrument{Kind: api.ShowDial, Name: name, Track: "a", Low: low, High: high, Steps: steps, Zones: zones}
}

func lamp(name string, op, n int, latch bool) api.Instrument {
	return api.Instrument{Kind: api.ShowLamp, Name: name, Track: "a", Op: op, N: n, Latch: latch}
}

func peak(name string, places int) api.Instrument {
	return api.Instrument{Kind: api.ShowPeak, Name: name, Track: "a", Places: places}
}

func count(name string, op, n int) api.Instrument {
	return api.Instrument{Kind: api.ShowCount, Name: name, Track: "a", Op: op, N: n}
}

func tape(name string, size, places int) api.Instrument {
	return api.Instrument{Kind: api.ShowTape, Name: name, Track: "a", Size: size, Places: places}
}

// on is an instrument that shows another track.
func on(track string, i api.Instrument) api.Instrument {
	i.Track = track
	return i
}

func panelOf(l ...api.Instrument) api.Panel {
	return api.Panel{Instruments: l}
}

// each has an instrument of each kind.
func each() api.Panel {
	return panelOf(
		digits("digits", 1),
		dial("dial", -10, 90, 10, api.Zone{From: -5, To: 0, Name: "low"}, api.Zone{From: 3, To: 50, Name: "green"}),
		lamp("lamp", api.Less, 0, false),
		lamp("latch", api.Less, 0, true),
		peak("peak", 0),
		count("count", api.Greater, 20),
		tape("tape", 3, 2),
	)
}

// wrongPanel has an error of Check.
func wrongPanel() api.Panel {
	return panelOf(digits("A", 0))
}

// numbered has so many instruments.
func numbered(count int) api.Panel {
	return api.Panel{Instruments: many(count, func(i int) api.Instrument { return digits("d"+strconv.Itoa(i), 0) })}
}

// Tracks.

func good(at, n int) api.Sample     { return api.Sample{At: at, N: n, Mark: api.MarkGood} }
func mended(at, n int) api.Sample   { return api.Sample{At: at, N: n, Mark: api.MarkMended} }
func doubtful(at, n int) api.Sample { return api.Sample{At: at, N: n, Mark: api.MarkDoubtful} }
func wrong(at int) api.Sample       { return api.Sample{At: at, Mark: api.MarkWrong} }
func lost(at int) api.Sample        { return api.Sample{At: at} }

func track(name string, den, long int, l ...api.Sample) api.Track {
	return api.Track{Name: name, Series: api.Series{Den: den, Samples: l}, Long: long}
}

// unknown is what a track is that is not known; it is no number of any test.
const unknown = math.MinInt

// framed is a track that has these numbers in the frames from 0 on.
func framed(name string, den int, numbers ...int) api.Track {
	t := track(name, den, api.Ticks-1)
	for i, n := range numbers {
		x := lost(api.Ticks * i)
		if n != unknown {
			x = good(x.At, n)
		}
		t.Series.Samples = append(t.Series.Samples, x)
	}
	return t
}

// only is the track a with these numbers, in parts of 10.
func only(numbers ...int) []api.Track {
	return []api.Track{framed("a", 10, numbers...)}
}

// wrongTracks have an error of event.CheckTracks.
func wrongTracks() []api.Track {
	return []api.Track{framed("a", 1, 5), framed("if", 1, 6)}
}

// Functions without errors.

func firstOf(t *testing.T, p api.Panel) api.PanelState {
	t.Helper()
	s, e := panel.First(p)
	wantErrno(t, "First", e, api.OK)
	return s
}

func advanced(t *testing.T, p api.Panel, l []api.Track, s api.PanelState) api.PanelState {
	t.Helper()
	n, e := panel.Advance(p, l, s)
	wantErrno(t, "Advance", e, api.OK)
	return n
}

// stateAt advances to a frame.
func stateAt(t *testing.T, p api.Panel, l []api.Track, frame int) api.PanelState {
	t.Helper()
	s := firstOf(t, p)
	for range frame + 1 {
		s = advanced(t, p, l, s)
	}
	return s
}

func facesOf(t *testing.T, p api.Panel, l []api.Track, s api.PanelState) []api.Face {
	t.Helper()
	f, e := panel.Faces(p, l, s)
	wantErrno(t, "Faces", e, api.OK)
	return f
}

func linesOf(t *testing.T, p api.Panel, faces []api.Face) string {
	t.Helper()
	s, e := panel.Lines(p, faces)
	wantErrno(t, "Lines", e, api.OK)
	return s
}

func replayOf(t *testing.T, p api.Panel, l []api.Track, keep int) *panel.Replay {
	t.Helper()
	r, e := panel.New(p, l, keep)
	if e != api.OK {
		t.Fatalf("New: error %d", e)
	}
	return r
}

func step(t *testing.T, r *panel.Replay, n int) {
	t.Helper()
	wantErrno(t, "Step", r.Step(n), api.OK)
}

// seek returns by how many frames a replay has advanced to a frame.
func seek(t *testing.T, r *panel.Replay, frame int) int {
	t.Helper()
	n, e := r.Seek(frame)
	wantErrno(t, "Seek", e, api.OK)
	wantSame(t, "Frame", r.Frame(), frame)
	return n
}
