package event_test

import (
	"slices"
	"testing"

	"orangebox/api"
	"orangebox/event"
	"orangebox/series"
)

// plain finds truths frame by frame as the table of the document says, and by nothing else.
type plain struct {
	rules  api.Rules
	tracks []api.Track
	from   int
	truths map[plainKey]int
	phases map[int][]string
}

type plainKey struct {
	cond  *api.Cond
	frame int
}

func plainOf(r api.Rules, l []api.Track, from int) *plain {
	return &plain{r, l, from, map[plainKey]int{}, map[int][]string{}}
}

func (p *plain) told(name string, frame int) (n, den int, known bool) {
	for _, t := range p.tracks {
		if t.Name == name {
			x, ok, _ := series.Hold(t.Series, 64*frame+63, t.Long)
			return x.N, t.Series.Den, ok && frame >= p.from
		}
	}
	return 0, 0, false
}

func (p *plain) truth(c *api.Cond, frame int) int {
	if frame < p.from {
		return api.Unknown
	}
	key := plainKey{c, frame}
	if _, ok := p.truths[key]; !ok {
		p.truths[key] = p.find(c, frame)
	}
	return p.truths[key]
}

// certain is True or False if one of both is, and never both.
func certain(isTrue, isFalse bool) int {
	switch {
	case isTrue && isFalse:
		panic("true and false")
	case isTrue:
		return api.True
	case isFalse:
		return api.False
	}
	return api.Unknown
}

func compares(op, a, b int) bool {
	return map[int]bool{api.Less: a < b, api.AtMost: a <= b, api.Equal: a == b, api.Differs: a != b, api.AtLeast: a >= b, api.Greater: a > b}[op]
}

func (p *plain) find(c *api.Cond, frame int) int {
	kid := func(i, frame int) int { return p.truth(&c.Kids[i], frame) }
	n, den, known := p.told(c.Name, frame)
	switch c.Kind {
	case api.CondTrue, api.CondFalse:
		return certain(c.Kind == api.CondTrue, c.Kind == api.CondFalse)
	case api.CondNumber:
		is := compares(c.Op, n, c.N)
		return certain(known && is, known && !is)
	case api.CondTracks:
		n2, den2, known2 := p.told(c.Other, frame)
		is := compares(c.Op, n*den2, n2*den)
		return certain(known && known2 && is, known && known2 && !is)
	case api.CondSteady:
		return p.steady(c, frame)
	case api.CondPhase:
		possible := p.possible(frame)
		return certain(slices.Equal(possible, []string{c.Name}), !slices.Contains(possible, c.Name))
	case api.CondRule:
		for i := range p.rules.Rules {
			if p.rules.Rules[i].Name == c.Name {
				return p.truth(&p.rules.Rules[i].When, frame)
			}
		}
		panic("no such rule")
	case api.CondNot:
		return certain(kid(0, frame) == api.False, kid(0, frame) == api.True)
	case api.CondAnd, api.CondOr:
		var l []int
		for i := range c.Kids {
			l = append(l, kid(i, frame))
		}
		if c.Kind == api.CondAnd {
			return certain(times(l, api.True) == len(l), times(l, api.False) > 0)
		}
		return certain(times(l, api.True) > 0, times(l, api.False) == len(l))
	case api.CondSince:
		first, second, before := kid(0, frame), kid(1, frame), p.truth(c, frame-1)
		return certain(second == api.True || first == api.True && before == api.True,
			second == api.False && (first == api.False || before == api.False))
	case api.CondRises:
		is, was := kid(0, frame), kid(0, frame-1)
		return certain(is == api.True && was == api.False, is == api.False || was == api.True)
	}
	var l []int
	for f := frame - c.Frames + 1; f <= frame; f++ {
		l = append(l, kid(0, f))
	}
	switch c.Kind {
	case api.CondFor:
		return certain(times(l, api.True) == c.Frames, times(l, api.False) > 0)
	case api.CondWithin:
		return certain(times(l, api.True) > 0, times(l, api.False) == c.Frames)
	case api.CondCount:
		return certain(times(l, api.True) >= c.N, times(l, api.False) > c.Frames-c.N)
	}
	panic("no such kind")
}

func times(l []int, truth int) int {
	n := 0
	for _, x := range l {
		if x == truth {
			n++
		}
	}
	return n
}

func (p *plain) steady(c *api.Cond, frame int) int {
	var l []int
	for f := frame - c.Frames + 1; f <= frame; f++ {
		if n, _, known := p.told(c.Name, f); known {
			l = append(l, n)
		}
	}
	apart := false
	for _, a := range l {
		for _, b := range l {
			apart = apart || a-b > c.N
		}
	}
	return certain(len(l) == c.Frames && !apart, apart)
}

func (p *plain) possible(frame int) []string {
	if len(p.rules.Phases) == 0 {
		return nil
	}
	if frame < p.from {
		return p.rules.Phases[:1]
	}
	if l, ok := p.phases[frame]; ok {
		return l
	}
	is := map[string]bool{}
	for _, phase := range p.possible(frame - 1) {
		stays := true
		for i := range p.rules.Moves {
			m := &p.rules.Moves[i]
			if m.From != phase || !stays {
				continue
			}
			truth := p.truth(&m.When, frame)
			is[m.To] = is[m.To] || truth != api.False
			stays = truth != api.True
		}
		is[phase] = is[phase] || stays
	}
	l := []string{}
	for _, phase := range p.rules.Phases {
		if is[phase] {
			l = append(l, phase)
		}
	}
	p.phases[frame] = l
	return l
}

// evaluate returns what Evaluate and Phases do.
func (p *plain) evaluate(to int) ([][]int, [][]string) {
	truths := make([][]int, len(p.rules.Rules))
	var phases [][]string
	for frame := p.from; frame <= to; frame++ {
		for i := range truths {
			truths[i] = append(truths[i], p.truth(&p.rules.Rules[i].When, frame))
		}
		phases = append(phases, p.possible(frame))
	}
	return truths, phases
}

// events returns what Events does.
func plainEvents(truths [][]int, from int) []api.Event {
	var l []api.Event
	for rule, row := range truths {
		is := func(i, truth int) bool { return i >= 0 && i < len(row) && row[i] == truth }
		for a := range row {
			for b := a; is(b, api.True); b++ {
				if !is(a-1, api.True) && !is(b+1, api.True) {
					l = append(l, api.Event{Rule: rule, From: from + a, To: from + b, Begins: is(a-1, api.False), Ends: is(b+1, api.False)})
				}
			}
		}
	}
	return l
}

func truthsOf(t *testing.T, r api.Rules, l []api.Track, from, to int) [][]int {
	t.Helper()
	truths, e := event.Evaluate(r, l, from, to)
	wantErrno(t, "Evaluate", e, api.OK)
	return truths
}

func phasesOf(t *testing.T, r api.Rules, l []api.Track, from, to int) [][]string {
	t.Helper()
	phases, e := event.Phases(r, l, from, to)
	wantErrno(t, "Phases", e, api.OK)
	return phases
}

func eventsOf(t *testing.T, r api.Rules, l []api.Track, from, to int) []api.Event {
	t.Helper()
	events, e := event.Events(r, l, from, to)
	wantErrno(t, "Events", e, api.OK)
	return events
}

func wantPhases(t *testing.T, name string, got, want [][]string) {
	t.Helper()
	if !slices.EqualFunc(got, want, slices.Equal[[]string]) {
		t.Errorf("%s: got %v, want %v", name, got, want)
	}
}
