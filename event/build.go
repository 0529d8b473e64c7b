package event

import (
	"slices"

	"orangebox/api"
)

// endless is the depth of what no number of frames decides.
const endless = -1

// builder makes nodes of conditions without errors, with room for what they keep.
type builder struct {
	rules  api.Rules
	tracks []api.Track
	kept   memory
}

// Depths returns for each rule how many frames decide it.
func Depths(r api.Rules) ([]int, api.Errno) {
	if e := Check(r); e != api.OK {
		return nil, e
	}
	b := builder{rules: r, tracks: each(tracksOf(r), func(name string) api.Track { return api.Track{Name: name} })}
	var depths []int
	for _, x := range r.Rules {
		depths = append(depths, depth(b.node(x.When), depths))
	}
	return depths, api.OK
}

// depth wants the depths of the earlier rules.
func depth(n node, rules []int) int {
	switch x := n.(type) {
	case condSteady:
		return x.frames
	case condPhase, condSince:
		return endless
	case condRule:
		return rules[x.rule]
	case condNot:
		return depth(x.kid, rules)
	case condAnd:
		return deepest(x.kids, rules)
	case condOr:
		return deepest(x.kids, rules)
	case condFor:
		return deeper(x.kid, x.frames-1, rules)
	case condWithin:
		return deeper(x.kid, x.frames-1, rules)
	case condCount:
		return deeper(x.kid, x.frames-1, rules)
	case condRises:
		return deeper(x.kid, 1, rules)
	}
	return 1
}

func deepest(kids []node, rules []int) int {
	most := 0
	for _, kid := range kids {
		d := depth(kid, rules)
		if d == endless {
			return endless
		}
		most = max(most, d)
	}
	return most
}

// deeper returns the depth of what looks at a kid so many frames before, too.
func deeper(kid node, frames int, rules []int) int {
	d := depth(kid, rules)
	if d == endless {
		return endless
	}
	return d + frames
}

func (b *builder) node(c api.Cond) node {
	switch c.Kind {
	case api.CondTrue:
		return condTrue{}
	case api.CondFalse:
		return condFalse{}
	case api.CondNumber:
		return condNumber{b.measured(c.Name).track, c.Op, c.N}
	case api.CondTracks:
		return condTracks{b.measured(c.Name), b.measured(c.Other), c.Op}
	case api.CondSteady:
		b.kept.spreads = append(b.kept.spreads, spread{})
		return condSteady{b.measured(c.Name).track, c.N, c.Frames, len(b.kept.spreads) - 1}
	case api.CondPhase:
		return condPhase{slices.Index(b.rules.Phases, c.Name)}
	case api.CondRule:
		return condRule{ruleNumber(b.rules.Rules, c.Name)}
	case api.CondNot:
		return condNot{b.node(c.Kids[0])}
	case api.CondAnd:
		return condAnd{each(c.Kids, b.node)}
	case api.CondOr:
		return condOr{each(c.Kids, b.node)}
	case api.CondFor:
		return condFor{b.lasting(c)}
	case api.CondWithin:
		return condWithin{b.lasting(c)}
	case api.CondCount:
		return condCount{b.lasting(c), c.N}
	case api.CondSince:
		return condSince{b.node(c.Kids[0]), b.node(c.Kids[1]), b.before()}
	}
	return condRises{b.node(c.Kids[0]), b.before()}
}

func (b *builder) move(m api.Move) move {
	return move{slices.Index(b.rules.Phases, m.From), slices.Index(b.rules.Phases, m.To), b.node(m.When)}
}

// measured returns for a missing track the number behind the last one, and a Den that is never asked for.
func (b *builder) measured(name string) measured {
	i := TrackNumber(b.tracks, name)
	if i < 0 {
		return measured{len(b.tracks), 1}
	}
	return measured{i, b.tracks[i].Series.Den}
}

func (b *builder) lasting(c api.Cond) lasting {
	kid := b.node(c.Kids[0])
	b.kept.windows = append(b.kept.windows, window{})
	return lasting{kid, c.Frames, len(b.kept.windows) - 1}
}

// before makes room for a truth in the frame before.
func (b *builder) before() int {
	b.kept.before = append(b.kept.before, api.Unknown)
	return len(b.kept.before) - 1
}
