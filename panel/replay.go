package panel

import (
	"slices"
	"sort"

	"orangebox/api"
)

// Replay stands at a frame of a panel, and keeps states and bookmarks.
type Replay struct {
	board board
	keep  int
	now   state
	kept  []state // ascending; the one ahead of all frames is the first
	marks []api.Bookmark
}

// New makes a replay that is ahead of all frames.
func New(p api.Panel, l []api.Track, keep int) (*Replay, api.Errno) {
	if e := checkBoth(p, l); e != api.OK {
		return nil, e
	}
	if keep < 1 || keep > MaxKeep {
		return nil, api.ErrRange
	}
	b := ownBoard(p, l)
	return &Replay{board: b, keep: keep, now: b.first(), kept: []state{b.first()}}, api.OK
}

// Frame returns at which frame the replay stands.
func (r *Replay) Frame() int {
	return r.now.frame
}

// Step goes some frames on.
func (r *Replay) Step(n int) api.Errno {
	if n < 0 || n >= MaxFrames-r.now.frame {
		return api.ErrRange
	}
	r.goTo(r.now.frame + n)
	return api.OK
}

// Seek goes to a frame, and returns by how many frames it has advanced.
func (r *Replay) Seek(frame int) (int, api.Errno) {
	if frame != -1 && !isFrame(frame) {
		return 0, api.ErrRange
	}
	return r.goTo(frame), api.OK
}

// State returns the state at which the replay stands.
func (r *Replay) State() api.PanelState {
	return r.board.told(r.now)
}

// Faces returns what the instruments show.
func (r *Replay) Faces() []api.Face {
	return r.board.faces(r.now)
}

// Kept returns the frames of the states that are kept.
func (r *Replay) Kept() []int {
	var frames []int
	for _, s := range r.kept[1:] {
		frames = append(frames, s.frame)
	}
	return frames
}

// ownBoard is like boardOf, but shares no memory with what is given.
func ownBoard(p api.Panel, l []api.Track) board {
	l = slices.Clone(l)
	for i := range l {
		l[i].Series.Samples = slices.Clone(l[i].Series.Samples)
	}
	b := boardOf(p, l)
	for k := range b {
		b[k].Zones = slices.Clone(b[k].Zones)
	}
	return b
}

// goTo is like Seek, without errors. Step goes this way, too: where frames were passed before, their states need not be found again.
func (r *Replay) goTo(frame int) int {
	r.now = r.nearest(frame)
	advanced := frame - r.now.frame
	for range advanced {
		r.advance()
	}
	return advanced
}

// nearest returns the last state, of those that are there, that is not above a frame.
func (r *Replay) nearest(frame int) state {
	above := sort.Search(len(r.kept), func(i int) bool { return r.kept[i].frame > frame })
	s := r.kept[above-1]
	if r.now.frame <= frame && r.now.frame > s.frame {
		s = r.now
	}
	return s
}

// advance keeps no state twice, since goTo never begins ahead of one that is kept and goes beyond it.
func (r *Replay) advance() {
	r.now = r.board.next(r.now)
	if r.now.frame%r.keep == r.keep-1 {
		r.kept = append(r.kept, r.now)
	}
}
