package panel_test

import (
	"math/rand/v2"
	"strconv"
	"strings"

	"orangebox/api"
)

// This file has random panels and tracks, and the plainest reading of the words of the document: what an instrument remembers behind a frame is found from all samples up to it, without a state.

// plainValue looks at all samples.
func plainValue(x api.Track, frame int) (api.Sample, bool) {
	var last api.Sample
	some := false
	for _, s := range x.Series.Samples {
		if s.At <= 64*frame+63 {
			last, some = s, true
		}
	}
	if !some || last.Mark < api.MarkMended || 64*frame+63-last.At > x.Long {
		return api.Sample{}, false
	}
	return last, true
}

func plainHolds(op, a, b int) bool {
	return map[int]bool{
		api.Less: a < b, api.AtMost: a <= b, api.Equal: a == b,
		api.Differs: a != b, api.AtLeast: a >= b, api.Greater: a > b,
	}[op]
}

func trackOf(l []api.Track, name string) api.Track {
	for _, x := range l {
		if x.Name == name {
			return x
		}
	}
	return api.Track{}
}

// plainMemo is what an instrument has kept behind a frame.
func plainMemo(i api.Instrument, l []api.Track, frame int) api.Memo {
	var numbers []int
	begun, was, ever := 0, false, false
	for f := range frame + 1 {
		x, known := plainValue(trackOf(l, i.Track), f)
		is := known && plainHolds(i.Op, x.N, i.N)
		if is && !was {
			begun++
		}
		was, ever = is, ever || is
		if known {
			numbers = append(numbers, x.N)
		}
	}
	switch i.Kind {
	case api.ShowLamp:
		return api.Memo{Lit: was || i.Latch && ever}
	case api.ShowCount:
		return api.Memo{Lit: was, Count: begun}
	case api.ShowPeak:
		m := api.Memo{}
		for _, n := range numbers {
			if !m.Some || n > m.N {
				m = api.Memo{Some: true, N: n}
			}
		}
		return m
	case api.ShowTape:
		return api.Memo{Tape: append([]int(nil), numbers[max(0, len(numbers)-i.Size):]...)}
	}
	return api.Memo{}
}

func plainState(p api.Panel, l []api.Track, frame int) api.PanelState {
	s := api.PanelState{Frame: frame}
	for _, i := range p.Instruments {
		s.Memos = append(s.Memos, plainMemo(i, l, frame))
	}
	return s
}

// plainFace is what an instrument shows behind a frame.
func plainFace(i api.Instrument, l []api.Track, frame int) api.Face {
	x := trackOf(l, i.Track)
	m, den := plainMemo(i, l, frame), x.Series.Den
	now, known := plainValue(x, frame)
	f := api.Face{Text: "---", Lit: m.Lit, Mark: now.Mark}
	var texts []string
	for _, n := range m.Tape {
		texts = append(texts, plainDigits(n, den, i.Places))
	}
	switch {
	case i.Kind == api.ShowDigits && known:
		f.Text = plainDigits(now.N, den, i.Places)
	case i.Kind == api.ShowDial && known:
		f.Text, f.Needle = plainDial(i, now.N)
	case i.Kind == api.ShowLamp && m.Lit:
		f.Text = "on"
	case i.Kind == api.ShowLamp && known:
		f.Text = "off"
	case i.Kind == api.ShowPeak && m.Some:
		f.Text = plainDigits(m.N, den, i.Places)
	case i.Kind == api.ShowCount:
		f.Text = strconv.Itoa(m.Count)
	case i.Kind == api.ShowTape && len(texts) > 0:
		f.Text = strings.Join(texts, " ")
	}
	return f
}

// plainDial goes up step by step.
func plainDial(i api.Instrument, n int) (zone string, needle int) {
	for needle < i.Steps && (n-i.Low)*i.Steps >= (needle+1)*(i.High-i.Low) {
		needle++
	}
	for _, z := range i.Zones {
		if n >= z.From && n <= z.To {
			zone = z.Name
		}
	}
	return zone, needle
}

func plainFaces(p api.Panel, l []api.Track, frame int) []api.Face {
	var faces []api.Face
	for _, i := range p.Instruments {
		faces = append(faces, plainFace(i, l, frame))
	}
	return faces
}

// Panels and tracks by chance.

func someZones(r *rand.Rand) []api.Zone {
	var l []api.Zone
	at := r.IntN(20) - 25
	for range r.IntN(4) {
		z := api.Zone{From: at, To: at + r.IntN(12), Name: pick(r, "red", "green", "0")}
		l = append(l, z)
		at = z.To + 1 + r.IntN(6)
	}
	return l
}

func someInstrument(r *rand.Rand, name string) api.Instrument {
	low := r.IntN(40) - 30
	i := pick(r,
		digits(name, r.IntN(4)),
		dial(name, low, low+1+r.IntN(30), 1+r.IntN(20), someZones(r)...),
		lamp(name, 1+r.IntN(6), r.IntN(30)-15, r.IntN(2) == 0),
		peak(name, r.IntN(3)),
		count(name, 1+r.IntN(6), r.IntN(30)-15),
		tape(name, 1+r.IntN(pick(r, 3, 50)), r.IntN(3)),
	)
	return on(pick(r, "a", "b", "c"), i)
}

func somePanel(r *rand.Rand) api.Panel {
	return api.Panel{Instruments: many(r.IntN(7), func(i int) api.Instrument { return someInstrument(r, "i"+strconv.Itoa(i)) })}
}

// someTrack has samples of all marks in about so many frames.
func someTrack(r *rand.Rand, name string, frames int) api.Track {
	x := track(name, pick(r, 1, 3, 10, 100), pick(r, 0, 63, 64, 200, 1000))
	apart := pick(r, 30, 64, 200)
	for at := r.IntN(200); at < 64*frames; at += 1 + r.IntN(apart) {
		n := r.IntN(60) - 30
		s := pick(r, good(at, n), good(at, n), good(at, n), mended(at, n), mended(at, n), doubtful(at, n), wrong(at), lost(at))
		x.Series.Samples = append(x.Series.Samples, s)
	}
	return x
}

func someTracks(r *rand.Rand, frames int) []api.Track {
	return []api.Track{someTrack(r, "c", frames), someTrack(r, "a", frames), someTrack(r, "unused", frames), someTrack(r, "b", frames)}
}
