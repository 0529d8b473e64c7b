package finding

import (
	"slices"

	"orangebox/api"
	"orangebox/event"
)

// known is what a track is known to be in some frames of a question, as long as all that it rests on is left.
type known[K comparable] struct {
	track, from, to int // frames are told by how far they are behind the first one
	n               int
	on              []K
}

// question is an evaluation, whose last rule is asked for in its last frame.
type question[K comparable] struct {
	watch          *event.Watch // ahead of the first frame
	frames, tracks int
	known          []known[K]
}

// truth returns the truth of the rule, if nothing is known but what rests on what is left.
func (q question[K]) truth(left map[K]bool) int {
	told := make([]api.Told, q.frames*q.tracks)
	for _, x := range q.known {
		if !areLeft(x.on, left) {
			continue
		}
		for frame := x.from; frame <= x.to; frame++ {
			told[frame*q.tracks+x.track] = api.Told{N: x.n, Known: true}
		}
	}
	w := q.watch.Copy()
	truth := api.Unknown
	for frame := range q.frames {
		truths, _ := w.Next(told[frame*q.tracks : (frame+1)*q.tracks])
		truth = truths[len(truths)-1]
	}
	return truth
}

// has returns a function that says whether the rule has a truth with what is left.
func (q question[K]) has(truth int) func(left map[K]bool) bool {
	return func(left map[K]bool) bool { return q.truth(left) == truth }
}

// fewest leaves out of a list, one after the other, all that can be missing, and returns what remains. What is enough must be so with more, too: that is why several can be tried at once, and are left out together if they can all be missing together.
func fewest[K comparable](l []K, isEnough func(left map[K]bool) bool) []K {
	var needed []K
	left := setOf(l)
	for step := 1; len(l) > 0; {
		tried := l[:min(step, len(l))]
		for _, x := range tried {
			delete(left, x)
		}
		if isEnough(left) {
			l = l[len(tried):]
			step *= 2
			continue
		}
		for _, x := range tried {
			left[x] = true
		}
		if len(tried) == 1 {
			needed = append(needed, l[0])
			l = l[1:]
		}
		step = max(1, len(tried)/2)
	}
	return needed
}

func setOf[K comparable](l []K) map[K]bool {
	set := map[K]bool{}
	for _, x := range l {
		set[x] = true
	}
	return set
}

func areLeft[K comparable](l []K, left map[K]bool) bool {
	return !slices.ContainsFunc(l, func(x K) bool { return !left[x] })
}
