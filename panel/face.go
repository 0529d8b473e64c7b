package panel

import (
	"slices"
	"strings"

	"orangebox/api"
	"orangebox/event"
)

// Faces returns what the instruments show behind a frame.
func Faces(p api.Panel, l []api.Track, s api.PanelState) ([]api.Face, api.Errno) {
	if e := checkAll(p, l, s); e != api.OK {
		return nil, e
	}
	b := boardOf(p, l)
	return b.faces(b.taken(s)), api.OK
}

// Lines writes what instruments show, a line for each one.
func Lines(p api.Panel, faces []api.Face) (string, api.Errno) {
	if e := Check(p); e != api.OK {
		return "", e
	}
	if len(faces) != len(p.Instruments) {
		return "", api.ErrForm
	}
	var b strings.Builder
	for k, f := range faces {
		b.WriteString(p.Instruments[k].Name + ": " + f.Text)
		if f.Lit {
			b.WriteString(" *")
		}
		if f.Mark != api.MarkGood {
			b.WriteString(" ?")
		}
		b.WriteByte('\n')
	}
	return b.String(), api.OK
}

// Differ returns the first frame in which replays with different tracks differ, and the first instrument that shows it.
func Differ(p api.Panel, a, b []api.Track, to int) (frame, instrument int, found bool, e api.Errno) {
	for _, l := range [][]api.Track{a, b} {
		if e := checkBoth(p, l); e != api.OK {
			return 0, 0, false, e
		}
	}
	if !isFrame(to) {
		return 0, 0, false, api.ErrRange
	}
	p = shortened(p)
	one, other := boardOf(p, a), boardOf(p, b)
	s, t := one.first(), other.first()
	for frame := range to + 1 {
		s, t = one.next(s), other.next(t)
		x, y := one.faces(s), other.faces(t)
		for k := range x {
			if x[k] != y[k] {
				return frame, k, true, api.OK
			}
		}
	}
	return 0, 0, false, api.OK
}

// Shown returns the frames in which the sample of an instrument is known.
func Shown(p api.Panel, l []api.Track, instrument, to int) ([]api.Extent, api.Errno) {
	if e := checkBoth(p, l); e != api.OK {
		return nil, e
	}
	if instrument < 0 || instrument >= len(p.Instruments) || !isFrame(to) {
		return nil, api.ErrRange
	}
	t := l[event.TrackNumber(l, p.Instruments[instrument].Track)]
	var shown []api.Extent
	was := false
	for frame := range to + 1 {
		_, known := value(t, frame)
		switch {
		case known && was:
			shown[len(shown)-1].To = frame
		case known:
			shown = append(shown, api.Extent{From: frame, To: frame})
		}
		was = known
	}
	return shown, api.OK
}

// shortened returns a panel with tapes for one number. What makes tapes differ, where nothing has differed before, is what came onto them last: so the first difference stays the same, and long tapes need not be written for each frame.
func shortened(p api.Panel) api.Panel {
	l := slices.Clone(p.Instruments)
	for k := range l {
		l[k].Size = min(l[k].Size, 1)
	}
	return api.Panel{Instruments: l}
}
