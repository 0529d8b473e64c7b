package event

import (
	"slices"

	"orangebox/api"
	"orangebox/series"
)

// Watch finds the truths of rules frame by frame. Copies share all but what it keeps, for nothing else ever changes.
type Watch struct {
	tracks int // how many there are
	phases []string
	moves  []move
	rules  []node
	kept   memory
}

// move is a move between phases that are told by their numbers.
type move struct {
	from, to int
	when     node
}

// New makes a watch that is ahead of the first frame.
func New(r api.Rules, l []api.Track) (*Watch, api.Errno) {
	if e := checkBoth(r, l); e != api.OK {
		return nil, e
	}
	return watchOf(r, l), api.OK
}

// Next returns the truth of each rule in the next frame.
func (w *Watch) Next(x []api.Told) ([]int, api.Errno) {
	if len(x) != w.tracks {
		return nil, api.ErrForm
	}
	for _, told := range x {
		if !told.Known && told.N != 0 {
			return nil, api.ErrForm
		}
		if told.N < -series.MaxN || told.N > series.MaxN {
			return nil, api.ErrRange
		}
	}
	return w.next(x), api.OK
}

// Phase returns the possible phases of the last frame.
func (w *Watch) Phase() []string {
	var names []string
	for phase, possible := range w.kept.possible {
		if possible {
			names = append(names, w.phases[phase])
		}
	}
	return names
}

// Kept returns how many truths and numbers of earlier frames are kept.
func (w *Watch) Kept() int {
	return w.kept.size()
}

// Copy returns a watch that goes on by itself.
func (w *Watch) Copy() *Watch {
	c := *w
	c.kept = w.kept.copied()
	return &c
}

// checkBoth returns what is wrong with rules, with tracks, or with both of them together.
func checkBoth(r api.Rules, l []api.Track) api.Errno {
	if e := Check(r); e != api.OK {
		return e
	}
	if e := CheckTracks(l); e != api.OK {
		return e
	}
	for _, name := range tracksOf(r) {
		if TrackNumber(l, name) < 0 {
			return api.ErrNone
		}
	}
	return api.OK
}

// watchOf wants rules and tracks without errors.
func watchOf(r api.Rules, l []api.Track) *Watch {
	b := builder{rules: r, tracks: l}
	w := Watch{tracks: len(l), phases: slices.Clone(r.Phases), moves: each(r.Moves, b.move)}
	w.rules = each(r.Rules, func(x api.Rule) node { return b.node(x.When) })
	w.kept = b.kept
	w.kept.possible = make([]bool, len(r.Phases))
	if len(r.Phases) > 0 {
		w.kept.possible[0] = true
	}
	return &w
}

// next is like Next, without errors.
func (w *Watch) next(x []api.Told) []int {
	now := moment{told: x, kept: &w.kept}
	w.kept.possible = w.follow(&now)
	now.possible = w.kept.possible
	for _, rule := range w.rules {
		now.truths = append(now.truths, rule.truth(&now))
	}
	return now.truths
}

// follow returns which phases are possible now. It asks the conditions of all moves, also where no move is possible.
func (w *Watch) follow(now *moment) []bool {
	truths := each(w.moves, func(m move) int { return m.when.truth(now) })
	possible := make([]bool, len(w.phases))
	for phase, was := range w.kept.possible {
		if was {
			w.leave(phase, truths, possible)
		}
	}
	return possible
}

// leave marks the phases that are possible now if a phase was that of the frame before.
func (w *Watch) leave(phase int, truths []int, possible []bool) {
	for i, m := range w.moves {
		if m.from != phase || truths[i] == api.False {
			continue
		}
		possible[m.to] = true
		if truths[i] == api.True {
			return
		}
	}
	possible[phase] = true
}
