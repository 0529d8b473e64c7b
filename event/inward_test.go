package event_test

import (
	"fmt"
	"slices"
	"testing"

	"orangebox/api"
	"orangebox/event"
)

func inwardOf(t *testing.T, c api.Cond) api.Cond {
	t.Helper()
	in, e := event.Inward(c)
	wantErrno(t, "Inward", e, api.OK)
	return in
}

// condOf is the condition that a text says.
func condOf(t *testing.T, text string) api.Cond {
	t.Helper()
	return ruledBy(t, "phase p rule q if true rule r if "+text).Rules[1].When
}

// F5: what becomes of each kind.
func TestInward(t *testing.T) {
	for text, want := range map[string]string{
		"true":                              "true",
		"x > 1":                             "x > 1",
		"not true":                          "false",
		"not false":                         "true",
		"not x < 5":                         "x >= 5",
		"not x <= 5":                        "x > 5",
		"not x = 5":                         "x != 5",
		"not x != 5":                        "x = 5",
		"not x >= 5":                        "x < 5",
		"not x > 5":                         "x <= 5",
		"not x < y":                         "x >= y",
		"not x <= y":                        "x > y",
		"not x = y":                         "x != y",
		"not x != y":                        "x = y",
		"not x >= y":                        "x < y",
		"not x > y":                         "x <= y",
		"not steady x 1 2":                  "not steady x 1 2",
		"not phase p":                       "not phase p",
		"not rule q":                        "not rule q",
		"not not x > 1":                     "x > 1",
		"not not not x > 1":                 "x <= 1",
		"not not phase p":                   "phase p",
		"not not not steady x 1 2":          "not steady x 1 2",
		"not (x > 1 and true and phase p)":  "x <= 1 or false or not phase p",
		"not (x > 1 or false or rule q)":    "x <= 1 and true and not rule q",
		"not for 7 x > 1":                   "within 7 x <= 1",
		"not within 7 x > 1":                "for 7 x <= 1",
		"not count 2 of 7 x > 1":            "count 6 of 7 x <= 1",
		"not count 7 of 7 x > 1":            "count 1 of 7 x <= 1",
		"not count 1 of 7 x > 1":            "count 7 of 7 x <= 1",
		"not count 1 of 1 x > 1":            "count 1 of 1 x <= 1",
		"count 2 of 7 x > 1":                "count 2 of 7 x > 1",
		"not since x > 1 x > 2":             "not since x > 1 x > 2",
		"not rises x > 1":                   "not rises x > 1",
		"not since not x > 1 not not x > 2": "not since x <= 1 x > 2",
		"since not x > 1 not phase p":       "since x <= 1 not phase p",
		"not rises not true":                "not rises false",
		"rises not for 2 not x > 1":         "rises within 2 x > 1",
		"for 2 not not x > 1":               "for 2 x > 1",
		"not for 2 not x > 1":               "within 2 x > 1",
		"not within 2 not phase p":          "for 2 phase p",
		"not count 2 of 3 not rule q":       "count 2 of 3 rule q",
		"not (not x > 1 and not phase p)":   "x > 1 or phase p",
		"not ((x > 1 or x < y) and not (rises not x > 1 or true))":       "x <= 1 and x >= y or (rises x <= 1 or true)",
		"(true and not (x = 1 and y = 1)) or not not since true not x>1": "(true and (x != 1 or y != 1)) or since true x <= 1",
	} {
		wantSame(t, text, inwardOf(t, condOf(t, text)), condOf(t, want))
	}
	wantSame(t, "of what is in no rules", inwardOf(t, not(both(ofRule("x"), inPhase("y")))), either(not(ofRule("x")), not(inPhase("y"))))
}

// stands reports whether CondNot is only where it can be.
func stands(c api.Cond) bool {
	keeps := []int{api.CondPhase, api.CondRule, api.CondSteady, api.CondSince, api.CondRises}
	if c.Kind == api.CondNot && !slices.Contains(keeps, c.Kids[0].Kind) {
		return false
	}
	return !slices.ContainsFunc(c.Kids, func(kid api.Cond) bool { return !stands(kid) })
}

// F5: the same truth in each frame of every evaluation.
func TestInwardTruths(t *testing.T) {
	r := dice(5)
	for range 2000 {
		rules := someRules(r, 4, 4)
		in := rules
		in.Moves, in.Rules = slices.Clone(rules.Moves), slices.Clone(rules.Rules)
		for i := range rules.Rules {
			rules.Rules[i].When = pick(r, rules.Rules[i].When, not(rules.Rules[i].When))
			in.Rules[i].When = inwardOf(t, rules.Rules[i].When)
			wantSame(t, fmt.Sprint("where CondNot is in ", in.Rules[i].When), stands(in.Rules[i].When), true)
			wantSame(t, "Inward of Inward", inwardOf(t, in.Rules[i].When), in.Rules[i].When)
		}
		for i := range rules.Moves {
			in.Moves[i].When = inwardOf(t, rules.Moves[i].When)
		}
		tracks := someTracks(r, 5, 12)
		from := 5 + r.IntN(3)
		wantSame(t, fmt.Sprint("truths of ", rules), truthsOf(t, in, tracks, from, 16), truthsOf(t, rules, tracks, from, 16))
		wantPhases(t, fmt.Sprint("phases of ", rules), phasesOf(t, in, tracks, from, 16), phasesOf(t, rules, tracks, from, 16))
	}
}

// F5: CheckCond's errors, and a result with too many conditions.
func TestInwardErrors(t *testing.T) {
	for name, c := range map[string]struct {
		cond api.Cond
		want api.Errno
	}{
		"zero":            {api.Cond{}, api.ErrKind},
		"for 0":           {not(inAll(0, over())), api.ErrRange},
		"a not of two":    {api.Cond{Kind: api.CondNot, Kids: []api.Cond{over(), over()}}, api.ErrForm},
		"a circle":        {circular(2), api.ErrSize},
		"too many levels": {nested(event.MaxLevels + 1), api.ErrSize},
		"no name":         {not(inPhase("")), api.ErrName},
	} {
		wantWrong(t, name, results(event.Inward(c.cond)), c.want)
	}
	phases := func(count int) api.Cond {
		return not(both(slices.Repeat([]api.Cond{inPhase("p")}, count)...))
	}
	wantSame(t, "199 conditions", len(inwardOf(t, phases(99)).Kids), 99)
	wantWrong(t, "201 conditions", results(event.Inward(phases(100))), api.ErrSize)
	wantWrong(t, "397 conditions", results(event.Inward(phases(198))), api.ErrSize)
	kids := slices.Repeat([]api.Cond{inPhase("p")}, 99)
	wantSame(t, "200 conditions", len(inwardOf(t, not(both(append(kids, over())...))).Kids), 100)
	wantSame(t, "MaxLevels", inwardOf(t, nested(event.MaxLevels)), never())
	wantSame(t, "MaxNodes", len(inwardOf(t, wide(event.MaxNodes)).Kids), event.MaxNodes-1)
	deep := steady("x", 1, 1)
	for range event.MaxLevels - 2 {
		deep = rises(deep)
	}
	wantSame(t, "MaxLevels of what stays", inwardOf(t, not(deep)), not(deep))
}
