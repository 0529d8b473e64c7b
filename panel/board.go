package panel

import (
	"orangebox/api"
	"orangebox/event"
)

// board is the gauges of a panel.
type board []gauge

// state is what the gauges of a board have kept behind a frame. It never changes, so that it can be kept as it is.
type state struct {
	frame int
	memos []memo
}

// boardOf wants a panel and tracks without errors; the board shares their memory.
func boardOf(p api.Panel, l []api.Track) board {
	b := make(board, len(p.Instruments))
	for k, i := range p.Instruments {
		b[k] = gauge{Instrument: i, shown: l[event.TrackNumber(l, i.Track)]}
	}
	return b
}

// first returns the state ahead of all frames.
func (b board) first() state {
	return state{frame: -1, memos: make([]memo, len(b))}
}

// next returns the state behind the next frame.
func (b board) next(s state) state {
	n := state{frame: s.frame + 1, memos: make([]memo, len(b))}
	for k, m := range s.memos {
		n.memos[k] = b[k].next(m, n.frame)
	}
	return n
}

// faces returns what is shown behind a frame.
func (b board) faces(s state) []api.Face {
	var l []api.Face
	for k, m := range s.memos {
		l = append(l, b[k].face(m, s.frame))
	}
	return l
}

// taken returns a state that was given; the numbers on its tapes are the first ones that came onto those of the board.
func (b board) taken(s api.PanelState) state {
	t := state{frame: s.Frame, memos: make([]memo, len(b))}
	for k, m := range s.Memos {
		t.memos[k] = memo{lit: m.Lit, some: m.Some, n: m.N, count: m.Count}
		for i, n := range m.Tape {
			b[k].put(i, n)
		}
		t.memos[k].count += len(m.Tape) // no instrument has both
	}
	return t
}

// told returns a state as others see it.
func (b board) told(s state) api.PanelState {
	t := api.PanelState{Frame: s.frame}
	for k, m := range s.memos {
		x := api.Memo{Lit: m.lit, Some: m.some, N: m.n}
		if b[k].Kind == api.ShowTape {
			x.Tape = append(x.Tape, b[k].last(m.count)...)
		} else {
			x.Count = m.count
		}
		t.Memos = append(t.Memos, x)
	}
	return t
}
