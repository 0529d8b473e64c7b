package event

import (
	"slices"

	"orangebox/api"
)

const maxSlower = 64

// Check returns what is wrong with rules.
func Check(r api.Rules) api.Errno {
	if len(r.Phases) > MaxPhases || len(r.Moves) > MaxMoves || len(r.Rules) > MaxRules {
		return api.ErrSize
	}
	if e := checkPhases(r.Phases); e != api.OK {
		return e
	}
	for _, m := range r.Moves {
		if e := checkMove(m, r.Phases); e != api.OK {
			return e
		}
	}
	for i, x := range r.Rules {
		if e := checkRule(x, r.Rules[:i], r.Phases); e != api.OK {
			return e
		}
	}
	return api.OK
}

// Tracks returns the names of the tracks that rules need.
func Tracks(r api.Rules) ([]string, api.Errno) {
	if e := Check(r); e != api.OK {
		return nil, e
	}
	return tracksOf(r), api.OK
}

// Slower returns the rules for frames of which only each k-th one is looked at.
func Slower(r api.Rules, k int) (api.Rules, api.Errno) {
	if e := Check(r); e != api.OK {
		return api.Rules{}, e
	}
	if k < 1 || k > maxSlower {
		return api.Rules{}, api.ErrRange
	}
	return withConds(r, func(c api.Cond) api.Cond { return slower(c, k) }), api.OK
}

// Merge returns the rules of both.
func Merge(a, b api.Rules) (api.Rules, api.Errno) {
	if e := Check(a); e != api.OK {
		return api.Rules{}, e
	}
	if e := Check(b); e != api.OK {
		return api.Rules{}, e
	}
	both := withConds(a, copied)
	for _, phase := range b.Phases {
		if !slices.Contains(a.Phases, phase) {
			both.Phases = append(both.Phases, phase)
		}
	}
	further := withConds(b, copied)
	both.Moves = append(both.Moves, further.Moves...)
	both.Rules = append(both.Rules, further.Rules...)
	if e := Check(both); e != api.OK {
		return api.Rules{}, e
	}
	return both, api.OK
}

func checkPhases(phases []string) api.Errno {
	for i, phase := range phases {
		if !IsName(phase) {
			return api.ErrName
		}
		if slices.Contains(phases[:i], phase) {
			return api.ErrTwice
		}
	}
	return api.OK
}

func checkMove(m api.Move, phases []string) api.Errno {
	if !slices.Contains(phases, m.From) || !slices.Contains(phases, m.To) {
		return api.ErrNone
	}
	if e := CheckCond(m.When); e != api.OK {
		return e
	}
	for c := range All(m.When) {
		if c.Kind == api.CondPhase || c.Kind == api.CondRule {
			return api.ErrForm
		}
	}
	return api.OK
}

func checkRule(r api.Rule, earlier []api.Rule, phases []string) api.Errno {
	if !IsName(r.Name) {
		return api.ErrName
	}
	if ruleNumber(earlier, r.Name) >= 0 {
		return api.ErrTwice
	}
	if e := CheckCond(r.When); e != api.OK {
		return e
	}
	for c := range All(r.When) {
		if c.Kind == api.CondPhase && !slices.Contains(phases, c.Name) {
			return api.ErrNone
		}
		if c.Kind == api.CondRule && ruleNumber(earlier, c.Name) < 0 {
			return api.ErrNone
		}
	}
	return api.OK
}

// ruleNumber returns the number of the rule with a name, or -1.
func ruleNumber(l []api.Rule, name string) int {
	return slices.IndexFunc(l, func(r api.Rule) bool { return r.Name == name })
}

// tracksOf wants rules without errors.
func tracksOf(r api.Rules) []string {
	var names []string
	add := func(whole api.Cond) {
		for c := range All(whole) {
			switch c.Kind {
			case api.CondNumber, api.CondSteady:
				names = append(names, c.Name)
			case api.CondTracks:
				names = append(names, c.Name, c.Other)
			}
		}
	}
	for _, m := range r.Moves {
		add(m.When)
	}
	for _, x := range r.Rules {
		add(x.When)
	}
	slices.Sort(names)
	return slices.Compact(names)
}

// withConds returns rules with what a function makes of their conditions.
func withConds(r api.Rules, change func(api.Cond) api.Cond) api.Rules {
	return api.Rules{
		Phases: slices.Clone(r.Phases),
		Moves:  each(r.Moves, func(m api.Move) api.Move { return api.Move{From: m.From, To: m.To, When: change(m.When)} }),
		Rules:  each(r.Rules, func(x api.Rule) api.Rule { return api.Rule{Name: x.Name, When: change(x.When)} }),
	}
}

// copied returns a condition that shares no kids with another one.
func copied(c api.Cond) api.Cond {
	c.Kids = each(c.Kids, copied)
	return c
}

func slower(c api.Cond, k int) api.Cond {
	c.Frames = share(c.Frames, k)
	if c.Kind == api.CondCount {
		c.N = share(c.N, k)
	}
	c.Kids = each(c.Kids, func(kid api.Cond) api.Cond { return slower(kid, k) })
	return c
}

// share divides, and rounds up. It wants numbers that are not negative.
func share(n, k int) int {
	return (n + k - 1) / k
}
