package event

import (
	"slices"

	"orangebox/api"
)

// memory is what is kept of earlier frames. What was before the first one is unknown, as its zero values say.
type memory struct {
	possible []bool   // phases
	before   []int    // truths in the frame before
	windows  []window // truths in the last frames
	spreads  []spread // numbers in the last frames
}

// tally is how often each truth is there.
type tally [3]int

// window is the truths of a condition in the last frames, but one less than they are, and how often each of them is there.
type window struct {
	ring  []uint8
	next  int // where the oldest one is, if the ring is full
	tally tally
}

// spread is the numbers of a track in the last frames, but one frame less than they are, that are less, or greater, than all later ones. The others never tell how far the numbers differ.
type spread struct {
	frame    int       // how many frames there were
	known    int       // in how many of them, up to the last one, the track was known without a gap
	least    []stamped // rising
	greatest []stamped // with the contrary sign, so that they rise, too
}

// stamped is a number with the frame in which it was.
type stamped struct{ frame, n int }

// size returns how many truths and numbers are kept.
func (m *memory) size() int {
	size := len(m.possible) + len(m.before)
	for _, w := range m.windows {
		size += len(w.ring)
	}
	for _, s := range m.spreads {
		size += s.size()
	}
	return size
}

func (m *memory) copied() memory {
	return memory{
		possible: slices.Clone(m.possible),
		before:   slices.Clone(m.before),
		windows:  each(m.windows, window.copied),
		spreads:  each(m.spreads, spread.copied),
	}
}

// atLeast returns whether n of so many truths are True, as far as it is certain.
func (t tally) atLeast(n, of int) int {
	if t[api.True] >= n {
		return api.True
	}
	if t[api.False] > of-n {
		return api.False
	}
	return api.Unknown
}

// add returns how often each truth is there in the last frames, with this one. Behind it the window is ready for the next frame.
func (w *window) add(truth, frames int) tally {
	w.tally[truth]++
	last := w.tally
	if len(w.ring) < frames-1 {
		w.ring = append(w.ring, uint8(truth))
		return last
	}
	oldest := truth
	if len(w.ring) > 0 {
		oldest, w.ring[w.next] = int(w.ring[w.next]), uint8(truth)
		w.next = (w.next + 1) % len(w.ring)
	}
	w.tally[oldest]--
	return last
}

func (w window) copied() window {
	w.ring = slices.Clone(w.ring)
	return w
}

// add returns by how much two numbers in the last frames differ at most, with this one, and in how many frames, up to it, the track was known without a gap. Behind it the spread is ready for the next frame.
func (s *spread) add(x api.Told, frames int) (apart, known int) {
	s.frame++
	s.known++
	if x.Known {
		s.least = pushed(s.least, stamped{s.frame, x.N})
		s.greatest = pushed(s.greatest, stamped{s.frame, -x.N})
	} else {
		s.known = 0
	}
	if len(s.least) > 0 {
		apart = -s.greatest[0].n - s.least[0].n
	}
	oldest := s.frame - frames + 1
	s.least, s.greatest = behind(s.least, oldest), behind(s.greatest, oldest)
	return apart, s.known
}

// size counts the last number once: it is in both lists, and it alone, for no other one is both less and greater than it.
func (s spread) size() int {
	return max(0, len(s.least)+len(s.greatest)-1)
}

func (s spread) copied() spread {
	s.least, s.greatest = slices.Clone(s.least), slices.Clone(s.greatest)
	return s
}

// pushed returns a rising list with a number at its end, without those that are not less.
func pushed(l []stamped, x stamped) []stamped {
	for len(l) > 0 && l[len(l)-1].n >= x.n {
		l = l[:len(l)-1]
	}
	return append(l, x)
}

// behind returns the numbers behind a frame.
func behind(l []stamped, frame int) []stamped {
	for len(l) > 0 && l[0].frame <= frame {
		l = l[1:]
	}
	return l
}
