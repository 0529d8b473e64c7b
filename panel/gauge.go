package panel

import (
	"strconv"
	"strings"

	"orangebox/api"
)

// gauge is an instrument with the track that it shows. All numbers that ever came onto its tape lie in one list, so that of each state only their count is kept.
type gauge struct {
	api.Instrument
	shown api.Track
	tape  []int
}

// memo is what a gauge has kept behind a frame.
type memo struct {
	lit, some bool
	n         int // the greatest number of a peak
	count     int // of a count; or how many numbers came onto a tape
}

// next returns what is kept behind a frame, if a memo was kept ahead of it.
func (g *gauge) next(m memo, frame int) memo {
	x, known := value(g.shown, frame)
	switch g.Kind {
	case api.ShowLamp:
		m.lit = known && holds(g.Op, x.N, g.N) || g.Latch && m.lit
	case api.ShowCount:
		was := m.lit
		m.lit = known && holds(g.Op, x.N, g.N)
		if m.lit && !was {
			m.count++
		}
	case api.ShowPeak:
		if known && (!m.some || x.N > m.n) {
			m.some, m.n = true, x.N
		}
	case api.ShowTape:
		if known {
			g.put(m.count, x.N)
			m.count++
		}
	}
	return m
}

// face returns what is shown behind a frame.
func (g *gauge) face(m memo, frame int) api.Face {
	x, known := value(g.shown, frame)
	f := api.Face{Text: nothing, Lit: m.lit, Mark: x.Mark}
	switch g.Kind {
	case api.ShowDigits:
		if known {
			f.Text = g.digits(x.N)
		}
	case api.ShowDial:
		if known {
			f.Text, f.Needle = zoneOf(g.Instrument, x.N), needle(g.Instrument, x.N)
		}
	case api.ShowLamp:
		if m.lit {
			f.Text = "on"
		} else if known {
			f.Text = "off"
		}
	case api.ShowPeak:
		if m.some {
			f.Text = g.digits(m.n)
		}
	case api.ShowCount:
		f.Text = strconv.Itoa(m.count)
	case api.ShowTape:
		if m.count > 0 {
			f.Text = g.row(g.last(m.count))
		}
	}
	return f
}

func (g *gauge) digits(n int) string {
	return digits(n, g.shown.Series.Den, g.Places)
}

func (g *gauge) row(numbers []int) string {
	var l []string
	for _, n := range numbers {
		l = append(l, g.digits(n))
	}
	return strings.Join(l, " ")
}

// put is given the number that comes onto the tape behind so many others. A replay that has been there before finds it in its place.
func (g *gauge) put(count, n int) {
	if count == len(g.tape) {
		g.tape = append(g.tape, n)
	}
}

// last returns which numbers are on the tape behind so many.
func (g *gauge) last(count int) []int {
	if count < MaxSize {
		return g.tape[max(0, count-g.Size):count]
	}
	longest := (*[MaxSize]int)(g.tape[count-MaxSize : count])
	return longest[MaxSize-g.Size:]
}
