package panel_test

import (
	"fmt"
	"testing"

	"orangebox/api"
	"orangebox/panel"
)

// H3
func TestFirst(t *testing.T) {
	wantSame(t, "First", firstOf(t, each()), api.PanelState{Frame: -1, Memos: make([]api.Memo, 7)})
	s := firstOf(t, api.Panel{})
	wantSame(t, "First of nothing", []int{s.Frame, len(s.Memos)}, []int{-1, 0})
}

// memos are some that each() can have.
func memos() []api.Memo {
	return []api.Memo{{}, {}, {Lit: true}, {Lit: true}, {Some: true, N: -4}, {Lit: true, Count: 3}, {Tape: []int{1, -2, 3}}}
}

// H3: states without errors, at their limits too.
func TestCheckState(t *testing.T) {
	for name, s := range map[string]api.PanelState{
		"some":           {Frame: 5, Memos: memos()},
		"of none":        {Frame: 0, Memos: make([]api.Memo, 7)},
		"ahead of all":   {Frame: -1, Memos: memos()},
		"empty tapes":    {Memos: many(7, func(int) api.Memo { return api.Memo{Tape: []int{}} })},
		"the last":       {Frame: panel.MaxFrames - 1, Memos: memos()},
		"0 of a peak":    {Memos: []api.Memo{4: {Some: true}, 5: {Count: panel.MaxFrames}, 6: {Tape: []int{most}}}},
		"a small number": {Memos: []api.Memo{4: {Some: true, N: -most}, 6: {Tape: []int{-most, 0, most}}}},
		"a great number": {Memos: []api.Memo{4: {Some: true, N: most}, 6: {Tape: []int{}}}},
	} {
		wantErrno(t, name, panel.CheckState(each(), s), api.OK)
	}
	wantErrno(t, "nothing", panel.CheckState(api.Panel{}, api.PanelState{}), api.OK)
	long := api.PanelState{Memos: []api.Memo{{Tape: make([]int, panel.MaxSize)}}}
	wantErrno(t, "a long tape", panel.CheckState(panelOf(tape("t", panel.MaxSize, 0)), long), api.OK)
}

// H3: each error, ahead of those that are asked for behind it.
func TestCheckStateErrors(t *testing.T) {
	set := func(k int, m api.Memo) api.PanelState {
		l := memos()
		l[k] = m
		return api.PanelState{Frame: 5, Memos: l}
	}
	states := map[string]struct {
		s    api.PanelState
		want api.Errno
	}{
		"Frame below -1":              {api.PanelState{Frame: -2}, api.ErrRange},
		"Frame above the limit":       {api.PanelState{Frame: panel.MaxFrames}, api.ErrRange},
		"no memos":                    {api.PanelState{}, api.ErrForm},
		"a memo less":                 {api.PanelState{Memos: []api.Memo{5: {Count: -1}}}, api.ErrForm},
		"a memo more":                 {api.PanelState{Memos: []api.Memo{5: {Count: -1}, 7: {}}}, api.ErrForm},
		"N without Some":              {set(4, api.Memo{N: 1}), api.ErrForm},
		"a great N without Some":      {set(4, api.Memo{N: most + 1}), api.ErrForm},
		"N of a peak":                 {set(4, api.Memo{Some: true, N: -most - 1}), api.ErrRange},
		"a negative count":            {set(5, api.Memo{Count: -1}), api.ErrRange},
		"a great count":               {set(5, api.Memo{Count: panel.MaxFrames + 1}), api.ErrRange},
		"a long tape":                 {set(6, api.Memo{Tape: []int{1, 2, 3, most + 1}}), api.ErrSize},
		"a number of a tape":          {set(6, api.Memo{Tape: []int{1, 2, most + 1}}), api.ErrRange},
		"a field, then a count":       {set(5, api.Memo{Some: true, Count: -1}), api.ErrForm},
		"a field, then a long tape":   {set(6, api.Memo{Lit: true, Tape: make([]int, 4)}), api.ErrForm},
		"a field, then a number":      {set(4, api.Memo{Some: true, N: most + 1, Count: 1}), api.ErrForm},
		"an earlier memo first":       {api.PanelState{Memos: []api.Memo{5: {Count: -1}, 6: {Lit: true}}}, api.ErrRange},
		"an earlier memo's form":      {api.PanelState{Memos: []api.Memo{0: {Lit: true}, 5: {Count: -1}, 6: {}}}, api.ErrForm},
		"a tape, then a later number": {api.PanelState{Memos: []api.Memo{4: {Some: true, N: most + 1}, 6: {Tape: make([]int, 4)}}}, api.ErrRange},
	}
	for _, b := range beyond() {
		states[fmt.Sprint("Frame ", b)] = states["Frame below -1"]
		states[fmt.Sprint("N ", b)] = struct {
			s    api.PanelState
			want api.Errno
		}{set(4, api.Memo{Some: true, N: b}), api.ErrRange}
		states[fmt.Sprint("Count ", b)] = struct {
			s    api.PanelState
			want api.Errno
		}{set(5, api.Memo{Count: b}), api.ErrRange}
		states[fmt.Sprint("Tape ", b)] = struct {
			s    api.PanelState
			want api.Errno
		}{set(6, api.Memo{Tape: []int{0, b}}), api.ErrRange}
	}
	for name, c := range states {
		wantErrno(t, name, panel.CheckState(each(), c.s), c.want)
		wantWrong(t, "Advance with "+name, results(panel.Advance(each(), only(5), c.s)), c.want)
		wantWrong(t, "Faces with "+name, results(panel.Faces(each(), only(5), c.s)), c.want)
	}
}

// H3: which fields the memo of each kind uses.
func TestFieldsOfMemos(t *testing.T) {
	type kinds = map[int]bool
	for name, c := range map[string]struct {
		m  api.Memo
		by kinds
	}{
		"Lit":   {api.Memo{Lit: true}, kinds{api.ShowLamp: true, api.ShowCount: true}},
		"Some":  {api.Memo{Some: true}, kinds{api.ShowPeak: true}},
		"N":     {api.Memo{Some: true, N: 1}, kinds{api.ShowPeak: true}},
		"Count": {api.Memo{Count: 1}, kinds{api.ShowCount: true}},
		"Tape":  {api.Memo{Tape: []int{0}}, kinds{api.ShowTape: true}},
	} {
		for k, i := range each().Instruments {
			want := api.ErrForm
			if c.by[i.Kind] {
				want = api.OK
			}
			s := firstOf(t, each())
			s.Memos[k] = c.m
			wantErrno(t, fmt.Sprint(name, " of the kind ", i.Kind), panel.CheckState(each(), s), want)
		}
		for _, i := range each().Instruments {
			wantErrno(t, "N alone", panel.CheckState(panelOf(i), api.PanelState{Memos: []api.Memo{{N: 1}}}), api.ErrForm)
		}
	}
}

// wantMemos wants the memo of an instrument behind each frame of a track.
func wantMemos(t *testing.T, i api.Instrument, l []api.Track, want ...api.Memo) {
	t.Helper()
	s := firstOf(t, panelOf(i))
	for frame, m := range want {
		s = advanced(t, panelOf(i), l, s)
		wantSame(t, fmt.Sprint("memo of ", i, " behind ", frame), fmt.Sprint(s), fmt.Sprint(api.PanelState{Frame: frame, Memos: []api.Memo{m}}))
	}
}

// H3: what each kind remembers.
func TestAdvance(t *testing.T) {
	lit, out := api.Memo{Lit: true}, api.Memo{}
	l := only(unknown, 3, 5, unknown, 5, 6, 2, -9, unknown)
	wantMemos(t, digits("d", 0), l, out, out, out)
	wantMemos(t, dial("d", 0, 9, 9), l, out, out, out)
	wantMemos(t, lamp("l", api.Greater, 3, false), l, out, out, lit, out, lit, lit, out, out, out)
	wantMemos(t, lamp("l", api.Equal, 5, true), l, out, out, lit, lit, lit, lit, lit, lit, lit)
	wantMemos(t, lamp("l", api.Greater, 9, true), l, out, out, out, out, out)
	top := func(n int) api.Memo { return api.Memo{Some: true, N: n} }
	wantMemos(t, peak("p", 0), l, out, top(3), top(5), top(5), top(5), top(6), top(6), top(6), top(6))
	wantMemos(t, peak("p", 0), only(-7, -8, unknown, 0), top(-7), top(-7), top(-7), top(0))
	counted := func(is bool, n int) api.Memo { return api.Memo{Lit: is, Count: n} }
	wantMemos(t, count("c", api.AtLeast, 5), l, counted(false, 0), counted(false, 0), counted(true, 1), counted(false, 1), counted(true, 2), counted(true, 2), counted(false, 2), counted(false, 2))
	with := func(n ...int) api.Memo { return api.Memo{Tape: n} }
	wantMemos(t, tape("t", 3, 0), l, out, with(3), with(3, 5), with(3, 5), with(3, 5, 5), with(5, 5, 6), with(5, 6, 2), with(6, 2, -9), with(6, 2, -9))
	wantMemos(t, tape("t", 1, 0), l, out, with(3), with(5), with(5), with(5), with(6))
	numbers := many(60, func(i int) int { return i })
	long := many(60, func(i int) api.Memo { return with(numbers[max(0, i-49) : i+1]...) })
	wantMemos(t, tape("t", panel.MaxSize, 0), only(numbers...), long...)
	shorter := many(60, func(i int) api.Memo { return with(numbers[max(0, i-48) : i+1]...) })
	wantMemos(t, tape("t", panel.MaxSize-1, 0), only(numbers...), shorter...)
}

// H3: Advance goes on from any state without errors, also from one that was never reached.
func TestAdvanceFromAnyState(t *testing.T) {
	s := api.PanelState{Frame: 1, Memos: memos()}
	want := []api.Memo{{}, {}, {}, {Lit: true}, {Some: true, N: 7}, {Count: 3}, {Tape: []int{-2, 3, 7}}}
	wantSame(t, "Advance", advanced(t, each(), only(unknown, unknown, 7), s), api.PanelState{Frame: 2, Memos: want})
	want = []api.Memo{{}, {}, {}, {Lit: true}, {Some: true, N: -4}, {Count: 3}, {Tape: []int{1, -2, 3}}}
	wantSame(t, "Advance without a number", advanced(t, each(), only(), s), api.PanelState{Frame: 2, Memos: want})
	top := api.PanelState{Memos: []api.Memo{{Count: panel.MaxFrames}}}
	wantSame(t, "the count above the limit", advanced(t, panelOf(count("c", api.Less, 0)), only(0, -1), top).Memos[0], api.Memo{Lit: true, Count: panel.MaxFrames + 1})
	full := api.PanelState{Memos: []api.Memo{{Tape: many(panel.MaxSize, func(i int) int { return i })}}}
	longer := advanced(t, panelOf(tape("t", panel.MaxSize, 0)), only(0, 50), full)
	wantSame(t, "a full tape", longer.Memos[0].Tape, many(panel.MaxSize, func(i int) int { return i + 1 }))
	wantSame(t, "no instruments", fmt.Sprint(advanced(t, api.Panel{}, nil, api.PanelState{Frame: 7})), "{8 []}")
}

// H3: the last frame of a replay.
func TestAdvanceToTheEnd(t *testing.T) {
	s := api.PanelState{Frame: panel.MaxFrames - 2, Memos: memos()}
	s = advanced(t, each(), only(1), s)
	wantSame(t, "the last frame", s.Frame, panel.MaxFrames-1)
	wantWrong(t, "one more", results(panel.Advance(each(), only(1), s)), api.ErrRange)
}

// H3: each instrument has its own track, wherever that is among the tracks.
func TestAdvanceOfTracks(t *testing.T) {
	l := []api.Track{framed("b", 1, 5, 6), framed("unused", 3, 9, 9), framed("a", 7, 1, unknown)}
	p := panelOf(tape("t", 3, 0), on("b", tape("u", 3, 0)), on("b", peak("p", 0)))
	wantSame(t, "memos", stateAt(t, p, l, 1).Memos, []api.Memo{{Tape: []int{1}}, {Tape: []int{5, 6}}, {Some: true, N: 6}})
}
