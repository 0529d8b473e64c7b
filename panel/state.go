package panel

import (
	"slices"

	"orangebox/api"
)

// First returns the state ahead of all frames.
func First(p api.Panel) (api.PanelState, api.Errno) {
	if e := Check(p); e != api.OK {
		return api.PanelState{}, e
	}
	return api.PanelState{Frame: -1, Memos: make([]api.Memo, len(p.Instruments))}, api.OK
}

// CheckState returns what is wrong with a state of a panel.
func CheckState(p api.Panel, s api.PanelState) api.Errno {
	if e := Check(p); e != api.OK {
		return e
	}
	return checkState(p, s)
}

// Advance returns the state behind the next frame.
func Advance(p api.Panel, l []api.Track, s api.PanelState) (api.PanelState, api.Errno) {
	if e := checkAll(p, l, s); e != api.OK {
		return api.PanelState{}, e
	}
	if s.Frame == MaxFrames-1 {
		return api.PanelState{}, api.ErrRange
	}
	b := boardOf(p, l)
	return b.told(b.next(b.taken(s))), api.OK
}

// checkAll returns what is wrong with a panel, with tracks, or with a state.
func checkAll(p api.Panel, l []api.Track, s api.PanelState) api.Errno {
	if e := checkBoth(p, l); e != api.OK {
		return e
	}
	return checkState(p, s)
}

// checkState wants a panel without errors.
func checkState(p api.Panel, s api.PanelState) api.Errno {
	if s.Frame != -1 && !isFrame(s.Frame) {
		return api.ErrRange
	}
	if len(s.Memos) != len(p.Instruments) {
		return api.ErrForm
	}
	for k, m := range s.Memos {
		if e := checkMemo(p.Instruments[k], m); e != api.OK {
			return e
		}
	}
	return api.OK
}

func checkMemo(i api.Instrument, m api.Memo) api.Errno {
	if isMisused(i.Kind, fieldsOfMemo(m)) || m.N != 0 && !m.Some {
		return api.ErrForm
	}
	if m.Count < 0 || m.Count > MaxFrames || !isNumber(m.N) {
		return api.ErrRange
	}
	if len(m.Tape) > i.Size {
		return api.ErrSize
	}
	if slices.ContainsFunc(m.Tape, func(n int) bool { return !isNumber(n) }) {
		return api.ErrRange
	}
	return api.OK
}

func fieldsOfMemo(m api.Memo) []field {
	return []field{
		{m.Lit, []int{api.ShowLamp, api.ShowCount}},
		{m.Some || m.N != 0, []int{api.ShowPeak}},
		{m.Count != 0, []int{api.ShowCount}},
		{len(m.Tape) > 0, []int{api.ShowTape}},
	}
}
