package event

import (
	"cmp"

	"orangebox/api"
)

// node is a condition of one kind. It must be asked in each frame, and once, for of what it was it keeps what it needs.
type node interface {
	truth(now *moment) int
}

// moment is a frame, with what is kept of those before it.
type moment struct {
	told     []api.Told // of each track
	possible []bool     // of each phase
	truths   []int      // of each earlier rule
	kept     *memory
}

// measured is a track whose numbers are parts of something.
type measured struct{ track, den int }

// lasting is what is asked of a kid in the last frames.
type lasting struct {
	kid            node
	frames, window int
}

type (
	condTrue   struct{}
	condFalse  struct{}
	condNumber struct{ track, op, n int }
	condTracks struct {
		one, other measured
		op         int
	}
	condSteady struct{ track, n, frames, spread int }
	condPhase  struct{ phase int }
	condRule   struct{ rule int }
	condNot    struct{ kid node }
	condAnd    struct{ kids []node }
	condOr     struct{ kids []node }
	condFor    struct{ lasting }
	condWithin struct{ lasting }
	condCount  struct {
		lasting
		n int
	}
	condSince struct {
		first, second node
		before        int
	}
	condRises struct {
		kid    node
		before int
	}
)

func (condTrue) truth(*moment) int {
	return api.True
}

func (condFalse) truth(*moment) int {
	return api.False
}

func (c condNumber) truth(now *moment) int {
	x := now.told[c.track]
	if !x.Known {
		return api.Unknown
	}
	return truthOf(Holds(c.op, cmp.Compare(x.N, c.n)))
}

func (c condTracks) truth(now *moment) int {
	x, y := now.told[c.one.track], now.told[c.other.track]
	if !x.Known || !y.Known {
		return api.Unknown
	}
	return truthOf(Holds(c.op, Compare(x.N, c.one.den, y.N, c.other.den)))
}

func (c condSteady) truth(now *moment) int {
	apart, known := now.kept.spreads[c.spread].add(now.told[c.track], c.frames)
	if apart > c.n {
		return api.False
	}
	if known < c.frames {
		return api.Unknown
	}
	return api.True
}

func (c condPhase) truth(now *moment) int {
	if !now.possible[c.phase] {
		return api.False
	}
	for phase, possible := range now.possible {
		if possible && phase != c.phase {
			return api.Unknown
		}
	}
	return api.True
}

func (c condRule) truth(now *moment) int {
	return now.truths[c.rule]
}

func (c condNot) truth(now *moment) int {
	switch c.kid.truth(now) {
	case api.True:
		return api.False
	case api.False:
		return api.True
	}
	return api.Unknown
}

func (c condAnd) truth(now *moment) int {
	return tallyOf(c.kids, now).atLeast(len(c.kids), len(c.kids))
}

func (c condOr) truth(now *moment) int {
	return tallyOf(c.kids, now).atLeast(1, len(c.kids))
}

func (c condFor) truth(now *moment) int {
	return c.tally(now).atLeast(c.frames, c.frames)
}

func (c condWithin) truth(now *moment) int {
	return c.tally(now).atLeast(1, c.frames)
}

func (c condCount) truth(now *moment) int {
	return c.tally(now).atLeast(c.n, c.frames)
}

func (c condSince) truth(now *moment) int {
	first, second := c.first.truth(now), c.second.truth(now)
	before := &now.kept.before[c.before]
	switch {
	case second == api.True || first == api.True && *before == api.True:
		*before = api.True
	case second == api.False && (first == api.False || *before == api.False):
		*before = api.False
	default:
		*before = api.Unknown
	}
	return *before
}

func (c condRises) truth(now *moment) int {
	is, before := c.kid.truth(now), now.kept.before[c.before]
	now.kept.before[c.before] = is
	switch {
	case is == api.True && before == api.False:
		return api.True
	case is == api.False || before == api.True:
		return api.False
	}
	return api.Unknown
}

// tally returns how often each truth of the kid is there in the last frames.
func (l lasting) tally(now *moment) tally {
	return now.kept.windows[l.window].add(l.kid.truth(now), l.frames)
}

func tallyOf(kids []node, now *moment) tally {
	var t tally
	for _, kid := range kids {
		t[kid.truth(now)]++
	}
	return t
}

func truthOf(is bool) int {
	if is {
		return api.True
	}
	return api.False
}
