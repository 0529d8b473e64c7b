package panel_test

import (
	"fmt"
	"math/rand/v2"
	"slices"
	"testing"

	"orangebox/api"
	"orangebox/panel"
)

func wantDiffer(t *testing.T, p api.Panel, a, b []api.Track, to, frame, instrument int, found bool) {
	t.Helper()
	f, i, ok, e := panel.Differ(p, a, b, to)
	wantErrno(t, "Differ", e, api.OK)
	wantSame(t, fmt.Sprint("Differ of ", p, a, b, " to ", to), []any{f, i, ok}, []any{frame, instrument, found})
}

// H4
func TestDiffer(t *testing.T) {
	p := panelOf(digits("d", 0), peak("p", 1), tape("t", 2, 0))
	a := only(10, 20, 30, 40)
	wantDiffer(t, p, a, a, panel.MaxFrames-1, 0, 0, false)
	wantDiffer(t, p, a, only(10, 20, 31, 40), 3, 2, 1, true)
	wantDiffer(t, p, a, only(10, 20, 31, 40), 1, 0, 0, false)
	wantDiffer(t, p, a, only(10, 20, 31, 40), 2, 2, 1, true)
	wantDiffer(t, p, a, only(10, 20, 36, 40), 3, 2, 0, true)
	wantDiffer(t, p, a, only(11, 20), 0, 0, 1, true)
	wantDiffer(t, p, a, only(10, 20, 30), 9, 3, 0, true)
	wantDiffer(t, p, only(10, 20, 30), a, 9, 3, 0, true)
	wantDiffer(t, p, a, []api.Track{framed("b", 1, 5), framed("a", 100, 100, 200, 300, 400)}, 9, 0, 0, false)
	wantDiffer(t, api.Panel{}, a, only(5), 9, 0, 0, false)
	wantDiffer(t, p, only(), nothingKnown(), 99, 0, 0, false)
	late := []api.Track{track("a", 10, 0, lost(0), good(64*panel.MaxFrames-1, 5))}
	wantDiffer(t, p, only(), late, panel.MaxFrames-1, panel.MaxFrames-1, 0, true)
	wantDiffer(t, p, only(), late, panel.MaxFrames-2, 0, 0, false)
}

// nothingKnown is a track whose samples are not solid.
func nothingKnown() []api.Track {
	return []api.Track{track("a", 10, 1<<40, lost(0), wrong(9), doubtful(64, 5), lost(200))}
}

// H4: a difference in each field of a face.
func TestDifferInAnyField(t *testing.T) {
	zone := api.Zone{From: 40, To: 50, Name: "z"}
	mends := only(1, 2)
	mends[0].Series.Samples[1].Mark = api.MarkMended
	for name, c := range map[string]struct {
		i    api.Instrument
		a, b []api.Track
	}{
		"Text":              {dial("d", 0, 10, 1, zone), only(1, 45), only(1, 51)},
		"Needle":            {dial("d", 0, 10, 2), only(1, 4), only(1, 5)},
		"Lit":               {lamp("l", api.Greater, 5, false), only(5, 6), only(5, 5)},
		"Mark":              {lamp("l", api.Greater, 5, false), only(1, 2), mends},
		"a count":           {count("c", api.Greater, 5), only(5, 6), only(5, 5)},
		"the end of a tape": {tape("t", 50, 0), only(1, 2), only(1, 9)},
		"a mark of a tape":  {tape("t", 50, 0), only(1, 1), only(1)},
	} {
		p := panelOf(digits("always", 0), c.i)
		p.Instruments[0].Track = "same"
		same := framed("same", 1, 7, 7, 7)
		_, instrument, found, e := panel.Differ(p, append(c.a, same), append(c.b, same), 9)
		wantErrno(t, name, e, api.OK)
		wantSame(t, name, []any{instrument, found}, []any{1, true})
	}
}

// H4: to is asked for at last.
func TestDifferErrors(t *testing.T) {
	for _, to := range append(beyond(), -1, panel.MaxFrames) {
		wantWrong(t, fmt.Sprint("Differ to ", to), results(panel.Differ(each(), only(1), only(2), to)), api.ErrRange)
		wantWrong(t, fmt.Sprint("Shown to ", to), results(panel.Shown(each(), only(1), 0, to)), api.ErrRange)
	}
	wantWrong(t, "b with errors", results(panel.Differ(each(), only(1), wrongTracks(), -1)), api.ErrName)
	wantWrong(t, "b without a track", results(panel.Differ(each(), only(1), nil, -1)), api.ErrNone)
	wantWrong(t, "a ahead of b", results(panel.Differ(each(), nil, wrongTracks(), -1)), api.ErrNone)
}

// changed is a copy of tracks that are changed so that most faces stay.
func changed(r *rand.Rand, l []api.Track) []api.Track {
	l = slices.Clone(l)
	for k := range l {
		s := &l[k].Series
		s.Samples = slices.Clone(s.Samples)
		if r.IntN(3) == 0 { // the same numbers, in other parts
			s.Den *= 2
			for i := range s.Samples {
				s.Samples[i].N *= 2
			}
		}
		if n := len(s.Samples); n > 0 && r.IntN(2) == 0 {
			change(r, &s.Samples[r.IntN(n)])
		}
	}
	return l
}

func change(r *rand.Rand, x *api.Sample) {
	if x.Mark >= api.MarkDoubtful {
		x.N += r.IntN(3) - 1
		x.Mark = pick(r, x.Mark, x.Mark, api.MarkDoubtful, api.MarkMended, api.MarkGood)
	}
}

// H4: against what is shown in each frame, written plainly.
func TestDifferMany(t *testing.T) {
	r := dice(3)
	found := 0
	for range 500 {
		p, a := somePanel(r), someTracks(r, 25)
		b, to := changed(r, a), r.IntN(30)
		frame, instrument, differ := plainDiffer(p, a, b, to)
		wantDiffer(t, p, a, b, to, frame, instrument, differ)
		if differ {
			found++
		}
	}
	if found < 50 || found > 450 {
		t.Errorf("%d of 500 differ", found)
	}
}

func plainDiffer(p api.Panel, a, b []api.Track, to int) (frame, instrument int, found bool) {
	for frame := range to + 1 {
		x, y := plainFaces(p, a, frame), plainFaces(p, b, frame)
		for k := range x {
			if x[k] != y[k] {
				return frame, k, true
			}
		}
	}
	return 0, 0, false
}

func shown(t *testing.T, p api.Panel, l []api.Track, instrument, to int) []api.Extent {
	t.Helper()
	x, e := panel.Shown(p, l, instrument, to)
	wantErrno(t, "Shown", e, api.OK)
	return x
}

// H4
func TestShown(t *testing.T) {
	l := append(only(unknown, 3, 4, unknown, 5), framed("b", 1, 1, 1, unknown, unknown, 1, 1, 1))
	p := panelOf(digits("d", 0), on("b", tape("t", 1, 0)), dial("n", 0, 1, 1))
	wantSame(t, "a", shown(t, p, l, 0, 9), []api.Extent{{From: 1, To: 2}, {From: 4, To: 4}})
	wantSame(t, "a dial", shown(t, p, l, 2, 9), []api.Extent{{From: 1, To: 2}, {From: 4, To: 4}})
	wantSame(t, "b", shown(t, p, l, 1, 9), []api.Extent{{From: 0, To: 1}, {From: 4, To: 6}})
	wantSame(t, "b to 5", shown(t, p, l, 1, 5), []api.Extent{{From: 0, To: 1}, {From: 4, To: 5}})
	wantSame(t, "b to 3", shown(t, p, l, 1, 3), []api.Extent{{From: 0, To: 1}})
	wantSame(t, "b to 0", shown(t, p, l, 1, 0), []api.Extent{{From: 0, To: 0}})
	wantSame(t, "a to 0", shown(t, p, l, 0, 0), []api.Extent{})
	wantSame(t, "nothing", shown(t, p, append(nothingKnown(), l[1]), 0, panel.MaxFrames-1), []api.Extent{})
	held := append([]api.Track{track("a", 1, 1<<40, good(64, 5))}, l[1])
	wantSame(t, "held for ever", shown(t, p, held, 0, panel.MaxFrames-1), []api.Extent{{From: 1, To: panel.MaxFrames - 1}})
	for _, i := range append(beyond(), -1, 3) {
		wantWrong(t, fmt.Sprint("the instrument ", i), results(panel.Shown(p, l, i, 0)), api.ErrRange)
	}
	wantWrong(t, "no instruments", results(panel.Shown(api.Panel{}, l, 0, 0)), api.ErrRange)
}

// H2, H4: Shown and Value against a look at all samples.
func TestShownMany(t *testing.T) {
	r := dice(4)
	for range 300 {
		l, to := someTracks(r, 25), r.IntN(30)
		var want []api.Extent
		for frame := range to + 1 {
			x, known := plainValue(l[1], frame)
			wantValue(t, l[1], frame, x, known)
			if last := len(want) - 1; known && last >= 0 && want[last].To == frame-1 {
				want[last].To = frame
			} else if known {
				want = append(want, api.Extent{From: frame, To: frame})
			}
		}
		wantSame(t, "Shown", shown(t, panelOf(someLampOnA(r)), l, 0, to), want)
	}
}

func someLampOnA(r *rand.Rand) api.Instrument {
	return lamp("l", 1+r.IntN(6), 0, false)
}
