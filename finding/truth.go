package finding

import (
	"slices"

	"orangebox/api"
	"orangebox/event"
)

// Truth returns the truth of a rule in a frame.
func Truth(b api.Book, r api.Rules, rule string, first, number int) (int, api.Errno) {
	q, e := ask(b, r, rule, first, number)
	if e != api.OK {
		return api.Unknown, e
	}
	return q.truth(), api.OK
}

// Needed returns the names of the tracks that a rule needs.
func Needed(r api.Rules, rule string) ([]string, api.Errno) {
	if e := event.Check(r); e != api.OK {
		return nil, e
	}
	if !hasRule(r, rule) {
		return nil, api.ErrNone
	}
	return event.Tracks(partOf(r, rule))
}

// checkRule returns what is wrong with rules, with tracks, with the name of a rule, or with the frames in which it is asked for.
func checkRule(r api.Rules, l []api.Track, rule string, first, number int) api.Errno {
	if _, e := event.New(r, l); e != api.OK {
		return e
	}
	if !hasRule(r, rule) {
		return api.ErrNone
	}
	return checkFrames(first, number, MaxFrames)
}

func hasRule(r api.Rules, name string) bool {
	return slices.ContainsFunc(r.Rules, func(x api.Rule) bool { return x.Name == name })
}

// partOf returns the rules that decide a rule, with itself at the end, and the phases and moves, if one of these asks for a phase. It wants rules without errors. From the last rule on, each one comes ahead of those in it, which are earlier ones.
func partOf(r api.Rules, rule string) api.Rules {
	var part api.Rules
	needed := map[string]bool{rule: true}
	for i := len(r.Rules) - 1; i >= 0; i-- {
		x := r.Rules[i]
		if !needed[x.Name] {
			continue
		}
		part.Rules = append(part.Rules, x)
		for c := range event.All(x.When) {
			switch c.Kind {
			case api.CondRule:
				needed[c.Name] = true
			case api.CondPhase:
				part.Phases, part.Moves = r.Phases, r.Moves
			}
		}
	}
	slices.Reverse(part.Rules)
	return part
}
