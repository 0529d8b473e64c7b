package panel_test

import (
	"fmt"
	"slices"
	"strconv"
	"strings"
	"testing"

	"orangebox/api"
	"orangebox/panel"
)

// H5
func TestNew(t *testing.T) {
	r := replayOf(t, each(), only(1, 2, 3), 1)
	wantSame(t, "Frame", r.Frame(), -1)
	wantSame(t, "State", r.State(), firstOf(t, each()))
	wantSame(t, "Faces", r.Faces(), facesOf(t, each(), only(1), firstOf(t, each())))
	wantSame(t, "Kept", r.Kept(), []int{})
	wantSame(t, "Marks", r.Marks(), []api.Bookmark{})
	replayOf(t, each(), only(), panel.MaxKeep)
	for _, keep := range append(beyond(), -1, 0, panel.MaxKeep+1) {
		x, e := panel.New(each(), only(), keep)
		wantErrno(t, fmt.Sprint("keep ", keep), e, api.ErrRange)
		wantSame(t, "no replay", x == nil, true)
	}
	x, e := panel.New(wrongPanel(), only(), 1)
	wantErrno(t, "a wrong panel", e, api.ErrName)
	wantSame(t, "no replay", x == nil, true)
}

// H5
func TestStep(t *testing.T) {
	r := replayOf(t, each(), only(1, 2, 3), 1000)
	step(t, r, 0)
	wantSame(t, "Frame", r.Frame(), -1)
	step(t, r, 1)
	wantSame(t, "Frame", r.Frame(), 0)
	step(t, r, 5)
	wantSame(t, "Frame", r.Frame(), 5)
	for _, n := range append(beyond(), -1, panel.MaxFrames-5) {
		wantErrno(t, fmt.Sprint("Step ", n), r.Step(n), api.ErrRange)
		wantSame(t, "Frame", r.Frame(), 5)
	}
	step(t, r, panel.MaxFrames-6)
	wantSame(t, "Frame", r.Frame(), panel.MaxFrames-1)
	step(t, r, 0)
	wantErrno(t, "Step at the end", r.Step(1), api.ErrRange)
	all := replayOf(t, each(), only(1, 2, 3), 1)
	wantErrno(t, "Step beyond the end", all.Step(panel.MaxFrames+1), api.ErrRange)
	step(t, all, panel.MaxFrames)
	wantSame(t, "Kept", all.Kept(), many(panel.MaxFrames, func(i int) int { return i }))
	wantSame(t, "State", all.State(), r.State())
}

// H5: from which state Seek goes on.
func TestSeek(t *testing.T) {
	r := replayOf(t, each(), only(1, 2, 3), 4)
	for _, c := range [][2]int{{-1, 0}, {2, 3}, {3, 1}, {3, 0}, {2, 3}, {3, 0}, {9, 6}, {8, 1}, {9, 1}, {10, 1}, {7, 0}, {10, 3}, {12, 2}, {6, 3}, {5, 2}, {6, 1}, {-1, 0}, {11, 0}, {2, 3}, {0, 1}, {15, 4}, {-1, 0}, {14, 3}} {
		wantSame(t, fmt.Sprint("Seek to ", c[0]), seek(t, r, c[0]), c[1])
	}
	wantSame(t, "Kept", r.Kept(), []int{3, 7, 11, 15})
	before := r.State()
	for _, frame := range append(beyond(), -2, panel.MaxFrames) {
		wantWrong(t, fmt.Sprint("Seek to ", frame), results(r.Seek(frame)), api.ErrRange)
		wantSame(t, "State", r.State(), before)
	}
	wantSame(t, "to the end", seek(t, r, panel.MaxFrames-1), panel.MaxFrames-1-15)
	wantSame(t, "back", seek(t, r, panel.MaxFrames-2), 3)
	wantSame(t, "the last one kept", r.Kept()[panel.MaxFrames/4-1], panel.MaxFrames-1)
}

// H5: which frames are kept, and that they stay so.
func TestKept(t *testing.T) {
	for keep, want := range map[int][]int{1: {0, 1, 2, 3, 4, 5, 6, 7, 8}, 2: {1, 3, 5, 7}, 3: {2, 5, 8}, 8: {7}, 9: {8}, 10: {}, 1000: {}} {
		r := replayOf(t, each(), only(1, 2, 3), keep)
		step(t, r, 9)
		wantSame(t, fmt.Sprint("Kept with ", keep), r.Kept(), want)
		seek(t, r, 1)
		step(t, r, 3)
		wantSame(t, fmt.Sprint("Kept with ", keep, " on the way back"), r.Kept(), want)
	}
	r := replayOf(t, each(), only(1, 2, 3), panel.MaxKeep)
	step(t, r, panel.MaxKeep-1)
	wantSame(t, "just ahead", r.Kept(), []int{})
	step(t, r, 1)
	wantSame(t, "kept", r.Kept(), []int{panel.MaxKeep - 1})
	seek(t, r, panel.MaxFrames-1)
	wantSame(t, "all", r.Kept(), many(panel.MaxFrames/panel.MaxKeep, func(i int) int { return 1000*i + 999 }))
}

// keeping returns the frames that are kept if so many have been passed.
func keeping(frames, keep int) []int {
	return slices.DeleteFunc(many(frames, func(i int) int { return i }), func(i int) bool { return i%keep != keep-1 })
}

// plainAdvance is how far Seek has to advance.
func plainAdvance(kept []int, now, frame int) int {
	from := -1
	for _, f := range append(kept, now) {
		if f <= frame {
			from = max(from, f)
		}
	}
	return frame - from
}

// H3, H5: states and faces against the plainest reading, however a replay comes to a frame, and with any keep.
func TestReplayMany(t *testing.T) {
	r := dice(5)
	for range 150 {
		p, l, keep := somePanel(r), someTracks(r, 70), 1+r.IntN(12)
		x := replayOf(t, p, l, keep)
		passed, now := 0, -1
		for range 12 {
			frame := r.IntN(pick(r, 10, 80)) - 1
			if r.IntN(3) == 0 && now < 60 {
				step(t, x, r.IntN(12))
				frame = x.Frame()
			} else {
				wantSame(t, "Seek", seek(t, x, frame), plainAdvance(keeping(passed, keep), now, frame))
			}
			now, passed = frame, max(passed, frame+1)
			wantSame(t, "State", fmt.Sprint(x.State()), fmt.Sprint(plainState(p, l, frame)))
			wantSame(t, "Faces", x.Faces(), plainFaces(p, l, frame))
			wantSame(t, "Kept", x.Kept(), keeping(passed, keep))
		}
		s := stateAt(t, p, l, now)
		wantSame(t, "Advance", fmt.Sprint(s), fmt.Sprint(x.State()))
		wantSame(t, "Faces", facesOf(t, p, l, s), x.Faces())
		wantErrno(t, "CheckState", panel.CheckState(p, s), api.OK)
	}
}

// H5: what comes behind a frame changes nothing in it, and neither do numbers that are not solid.
func TestNothingElseIsShown(t *testing.T) {
	r := dice(6)
	for range 100 {
		p, l, frame := somePanel(r), someTracks(r, 40), r.IntN(40)
		x := replayOf(t, p, l, 5)
		seek(t, x, 39)
		seek(t, x, frame)
		for i := range l {
			for k := range l[i].Series.Samples {
				if s := &l[i].Series.Samples[k]; s.At >= 64*frame+64 || s.Mark == api.MarkDoubtful {
					s.N, s.Mark = 7777, api.MarkDoubtful
				}
			}
		}
		y := replayOf(t, p, l, 7)
		seek(t, y, frame)
		wantSame(t, "State", y.State(), x.State())
		wantSame(t, "Faces", y.Faces(), x.Faces())
	}
}

func mark(t *testing.T, r *panel.Replay, frame int, text string) {
	t.Helper()
	seek(t, r, frame)
	wantErrno(t, "Mark", r.Mark(text), api.OK)
}

// H5
func TestMarks(t *testing.T) {
	r := replayOf(t, each(), only(1, 2, 3), 4)
	mark(t, r, 5, "b")
	mark(t, r, 9, "")
	mark(t, r, 5, "a")
	mark(t, r, 0, "\xff\n")
	mark(t, r, 9, "z")
	mark(t, r, 5, "b")
	want := []api.Bookmark{{Frame: 0, Text: "\xff\n"}, {Frame: 5, Text: "b"}, {Frame: 5, Text: "a"}, {Frame: 5, Text: "b"}, {Frame: 9}, {Frame: 9, Text: "z"}}
	wantSame(t, "Marks", r.Marks(), want)
	wantSame(t, "Frame", r.Frame(), 5)
	mark(t, r, panel.MaxFrames-1, strings.Repeat("x", panel.MaxText))
	wantSame(t, "the last one", r.Marks()[6].Frame, panel.MaxFrames-1)
}

// H5
func TestMarkErrors(t *testing.T) {
	r := replayOf(t, each(), only(1, 2, 3), 4)
	long := strings.Repeat("x", panel.MaxText+1)
	wantErrno(t, "at -1", r.Mark("x"), api.ErrState)
	wantErrno(t, "at -1, too long", r.Mark(long), api.ErrState)
	step(t, r, 1)
	wantErrno(t, "too long", r.Mark(long), api.ErrSize)
	wantSame(t, "Marks", r.Marks(), []api.Bookmark{})
	for i := range panel.MaxMarks {
		mark(t, r, 7*i%50, strconv.Itoa(i))
	}
	wantErrno(t, "too many", r.Mark(""), api.ErrSize)
	wantSame(t, "Marks", len(r.Marks()), panel.MaxMarks)
	seek(t, r, -1)
	wantErrno(t, "too many at -1", r.Mark(""), api.ErrState)
	for i, m := range r.Marks() {
		wantSame(t, "the frame of a mark", m.Frame, i/2)
	}
}

func wantNext(t *testing.T, r *panel.Replay, back bool, frame int, ok bool) {
	t.Helper()
	f, found, e := r.Next(back)
	wantErrno(t, "Next", e, api.OK)
	wantSame(t, "Next", []any{f, found}, []any{frame, ok})
}

// H5
func TestNext(t *testing.T) {
	r := replayOf(t, each(), only(1, 2, 3), 4)
	wantNext(t, r, false, 0, false)
	wantNext(t, r, true, 0, false)
	for _, frame := range []int{8, 3, 8, 0, 8} {
		mark(t, r, frame, "x")
	}
	seek(t, r, -1)
	for _, frame := range []int{0, 3, 8} {
		wantNext(t, r, false, frame, true)
		wantSame(t, "Frame", r.Frame(), frame)
		wantSame(t, "State", r.State(), stateAt(t, each(), only(1, 2, 3), frame))
	}
	wantNext(t, r, false, 0, false)
	wantSame(t, "Frame", r.Frame(), 8)
	seek(t, r, 20)
	wantNext(t, r, false, 0, false)
	for _, frame := range []int{8, 3, 0} {
		wantNext(t, r, true, frame, true)
		wantSame(t, "Frame", r.Frame(), frame)
	}
	wantNext(t, r, true, 0, false)
	wantSame(t, "Frame", r.Frame(), 0)
	seek(t, r, 7)
	wantNext(t, r, true, 3, true)
	seek(t, r, 4)
	wantNext(t, r, false, 8, true)
	seek(t, r, 7)
	wantNext(t, r, false, 8, true)
	seek(t, r, 4)
	wantNext(t, r, true, 3, true)
	seek(t, r, -1)
	wantNext(t, r, true, 0, false)
	wantSame(t, "Frame", r.Frame(), -1)
}

// H5: Next goes as Seek does, and keeps what it passes.
func TestNextKeeps(t *testing.T) {
	r := replayOf(t, each(), only(1, 2, 3), 2)
	mark(t, r, 5, "x")
	seek(t, r, 0)
	wantNext(t, r, false, 5, true)
	wantSame(t, "Kept", r.Kept(), []int{1, 3, 5})
	wantSame(t, "Seek behind it", seek(t, r, 6), 1)
}

// H3, H5: the greatest replay goes to its end and back; a state for each of its frames is kept.
func TestGreatReplay(t *testing.T) {
	p := api.Panel{Instruments: many(panel.MaxInstruments, func(i int) api.Instrument { return tape("t"+strconv.Itoa(i), panel.MaxSize, 6) })}
	x := track("a", 1000000, 63)
	for i := range panel.MaxFrames {
		x.Series.Samples = append(x.Series.Samples, good(64*i, most-i))
	}
	r := replayOf(t, p, []api.Track{x}, 1)
	step(t, r, panel.MaxFrames)
	wantSame(t, "Kept", len(r.Kept()), panel.MaxFrames)
	for frame := panel.MaxFrames - 1; frame >= 0; frame -= 997 {
		wantSame(t, "Seek", seek(t, r, frame), 0)
		last := r.State().Memos[panel.MaxInstruments-1].Tape
		wantSame(t, "Tape", last, many(min(frame+1, panel.MaxSize), func(i int) int { return most - max(0, frame-panel.MaxSize+1) - i }))
	}
	same := []api.Track{track("a", 500000, 63, slices.Clone(x.Series.Samples)...)}
	for i := range same[0].Series.Samples {
		x.Series.Samples[i].N = 2 * i
		same[0].Series.Samples[i].N = i
	}
	wantDiffer(t, p, []api.Track{x}, same, panel.MaxFrames-1, 0, 0, false)
}
