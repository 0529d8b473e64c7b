package finding_test

import (
	"fmt"
	"slices"
	"strings"
	"testing"

	"orangebox/api"
	"orangebox/event"
	"orangebox/finding"
	"orangebox/series"
)

// G2: what lies before the first frame is unknown, and so is what rests on words that are lost.
func TestTruth(t *testing.T) {
	b := without(climb(t, 0, 20), 12)
	r := ruledBy(t, "phase p phase q move p q if alt > 3 rule a if for 3 alt > 5 rule b if phase q rule c if alt < low rule d if rule a or true")
	for name, c := range map[string]struct {
		rule                string
		first, number, want int
	}{
		"all known":              {"a", 0, 9, api.True},
		"just known":             {"a", 7, 9, api.True},
		"one too few":            {"a", 8, 9, api.Unknown},
		"one false":              {"a", 0, 7, api.False},
		"false with one alone":   {"a", 5, 5, api.False},
		"one lost":               {"a", 0, 14, api.Unknown},
		"behind it":              {"a", 0, 15, api.True},
		"the phase":              {"b", 0, 4, api.True},
		"the phase before":       {"b", 0, 3, api.False},
		"the phase by the first": {"b", 4, 4, api.True},
		"two tracks":             {"c", 0, 13, api.True},
		"a rule in a rule":       {"d", 8, 9, api.True},
		"behind all frames":      {"c", 0, 1999, api.Unknown},
		"far behind them":        {"d", api.Number - 1, api.Number - 1, api.True},
	} {
		wantSame(t, name, truthOf(t, b, r, c.rule, c.first, c.number), c.want)
	}
	d := dice(4)
	counts := map[int]int{}
	for range 300 {
		b, r := someBook(t, d), someRules(t, d)
		first, number := someFrames(d, b, 12)
		tracks := plainTracks(t, b, all)
		for _, rule := range []string{"x", "y", "z"} {
			truth := truthOf(t, b, r, rule, first, number)
			wantSame(t, "by chance", truth, plainTruth(t, r, tracks, rule, first, number))
			counts[truth]++
		}
	}
	if counts[api.Unknown] < 100 || counts[api.False] < 100 || counts[api.True] < 100 {
		t.Error("truths by chance:", counts)
	}
}

type asked struct {
	rules         api.Rules
	rule          string
	first, number int
	want          api.Errno
}

// wrongAsked has errors of rules, names of rules and frames, for the tracks alt and low, with further ones that are asked for later.
func wrongAsked(t *testing.T) map[string]asked {
	t.Helper()
	r := ruledBy(t, "rule a if alt > 3 rule b if low > 3")
	other := ruledBy(t, "rule a if alt > 3 rule b if other > 3")
	moves := ruledBy(t, "phase p phase q move p q if other > 3 rule a if alt > 3")
	l := map[string]asked{
		"rules":                  {wrongRules(), "none", -1, -2, api.ErrName},
		"rules without an end":   {circular(), "none", -1, -2, api.ErrSize},
		"no rule":                {r, "c", -1, -2, api.ErrNone},
		"an empty name":          {r, "", 0, 0, api.ErrNone},
		"no rules":               {api.Rules{}, "a", 5, 4, api.ErrNone},
		"no track":               {other, "b", 5, 4, api.ErrNone},
		"no track of a rule":     {other, "a", 5, 4, api.ErrNone},
		"no track of a move":     {moves, "a", 5, 4, api.ErrNone},
		"negative":               {r, "a", -1, 5000, api.ErrRange},
		"first above number":     {r, "a", 5, 4, api.ErrRange},
		"number beyond":          {r, "a", 5, api.Number, api.ErrRange},
		"2001 frames":            {r, "a", 5, 2005, api.ErrSize},
		"as many as there are":   {r, "a", 0, api.Number - 1, api.ErrSize},
		"2000 frames":            {r, "a", 5, 2004, api.OK},
		"the last frame":         {r, "a", api.Number - 1, api.Number - 1, api.OK},
		"more than 2000 of them": {r, "b", api.Number - 2000, api.Number - 1, api.OK},
	}
	for _, n := range beyond() {
		l[fmt.Sprint("first ", n)] = asked{r, "a", n, 5, api.ErrRange}
		l[fmt.Sprint("number ", n)] = asked{r, "a", 5, n, api.ErrRange}
	}
	return l
}

// G2, G3: the errors of rules and frames in their order.
func TestWrongAsked(t *testing.T) {
	b := climb(t, 0, 16)
	for name, c := range wrongAsked(t) {
		truth, e := finding.Truth(b, c.rules, c.rule, c.first, c.number)
		wantErrno(t, "Truth: "+name, e, c.want)
		missing, e := finding.Missing(b, c.rules, c.rule, c.first, c.number)
		wantErrno(t, "Missing: "+name, e, c.want)
		wrong := api.Finding{Rule: c.rule, First: c.first, Number: c.number, Truth: 3, Words: make([]api.Where, 601)}
		if c.want == api.OK {
			wantWrong(t, "Evidence: "+name, results(finding.Evidence(b, c.rules, c.rule, c.first, c.number)), api.ErrState)
			wantWrong(t, "Reasons: "+name, results(finding.Reasons(c.rules, tracksOf(t, b), c.rule, c.first, c.number)), api.ErrState)
			wantWrong(t, "CheckFinding: "+name, results(finding.CheckFinding(b, c.rules, wrong)), api.ErrRange)
			continue
		}
		wantNothing(t, name, truth, missing)
		wantWrong(t, "Evidence: "+name, results(finding.Evidence(b, c.rules, c.rule, c.first, c.number)), c.want)
		wantWrong(t, "Reasons: "+name, results(finding.Reasons(c.rules, tracksOf(t, b), c.rule, c.first, c.number)), c.want)
		wantWrong(t, "CheckFinding: "+name, results(finding.CheckFinding(b, c.rules, wrong)), c.want)
	}
}

// G2: the tracks of a rule, of the rules in it and in these, and of all moves if one of them asks for a phase.
func TestNeeded(t *testing.T) {
	r := ruledBy(t, `phase p phase q move p q if m > 1 move q p if n < o
		rule a if z > 1 and (b < a or steady c 1 2) and z < 0
		rule b if true
		rule c if phase p
		rule d if for 2 not rule a or x = 1
		rule e if within 3 (rule d or rule b) or rises aa > 2
		rule f if since (rule c) a > 1
		rule g if count 1 of 2 rule f or rule e`)
	for rule, want := range map[string]string{
		"a": "a b c z", "b": "", "c": "m n o", "d": "a b c x z", "e": "a aa b c x z", "f": "a m n o", "g": "a aa b c m n o x z",
	} {
		l, e := finding.Needed(r, rule)
		wantErrno(t, rule, e, api.OK)
		wantSame(t, rule, strings.Join(l, " "), want)
	}
	for name, c := range wrongAsked(t) {
		if c.want == api.ErrName || c.want == api.ErrSize && len(c.rules.Rules) == 1 {
			wantWrong(t, name, results(finding.Needed(c.rules, c.rule)), c.want)
		}
	}
	wantWrong(t, "no rule", results(finding.Needed(r, "h")), api.ErrNone)
	wantWrong(t, "a track", results(finding.Needed(r, "z")), api.ErrNone)
	wantWrong(t, "no rules", results(finding.Needed(api.Rules{}, "")), api.ErrNone)
	d := dice(5)
	for range 200 {
		r := someRules(t, d)
		for _, rule := range []string{"x", "y", "z"} {
			l, e := finding.Needed(r, rule)
			wantErrno(t, "by chance", e, api.OK)
			wantSame(t, "by chance", l, plainNeeded(r, rule))
		}
	}
}

func spots(l ...any) []api.Spot {
	var s []api.Spot
	for i := 0; i < len(l); i += 2 {
		s = append(s, api.Spot{Track: l[i].(string), Number: l[i+1].(int)})
	}
	return s
}

// G2: spots are left out in their order, as long as the truth stays the same.
func TestReasons(t *testing.T) {
	l := []api.Track{
		framed("c", 1, 3, 1, 1, 1, 1, 1, 1),
		framed("a", 1, 3, 5, 9, unknown, 9, 9, 1),
		framed("b", 2, 3, 11, 11, 11, 11, 11, 11),
	}
	r := ruledBy(t, `rule over if a > 6 rule twice if count 2 of 6 a > 6 rule more if a < b rule any if within 6 (a > 6 or c = 1)
		rule sure if a > 6 or true rule here if rule over and c = 1 rule low if for 2 a < 6`)
	for name, c := range map[string]struct {
		rule          string
		first, number int
		want          []api.Spot
		truth         int
	}{
		"one":                     {"over", 3, 4, spots("a", 4), api.True},
		"false":                   {"over", 3, 3, spots("a", 3), api.False},
		"two of three":            {"twice", 3, 7, spots("a", 6, "a", 7), api.True},
		"two of two":              {"twice", 3, 6, spots("a", 4, "a", 6), api.True},
		"more of b":               {"more", 3, 3, spots("a", 3, "b", 3), api.True},
		"not more of b":           {"more", 3, 4, spots("a", 4, "b", 4), api.False},
		"the last one in a frame": {"any", 3, 7, spots("a", 7), api.True},
		"the other one":           {"any", 3, 8, spots("c", 8), api.True},
		"none":                    {"sure", 3, 5, nil, api.True},
		"two in order":            {"here", 3, 6, spots("c", 6, "a", 6), api.True},
		"one is enough":           {"here", 3, 8, spots("a", 8), api.False},
		"false because of before": {"low", 3, 4, spots("a", 4), api.False},
	} {
		s, truth, e := finding.Reasons(r, l, c.rule, c.first, c.number)
		wantErrno(t, name, e, api.OK)
		wantSame(t, name, s, c.want)
		wantSame(t, name, truth, c.truth)
	}
	wantWrong(t, "unknown", results(finding.Reasons(r, l, "over", 3, 5)), api.ErrState)
	wrong := []api.Track{framed("c", 1, 0), framed("A", 1, 0)}
	wantWrong(t, "tracks", results(finding.Reasons(r, wrong, "none", -1, 0)), api.ErrName)
	wantWrong(t, "rules, then tracks", results(finding.Reasons(circular(), wrong, "none", -1, 0)), api.ErrSize)
}

// toldTracks are some tracks with numbers in some of the frames from one on.
func toldTracks(t *testing.T, b api.Book, first, number int) ([]api.Track, []api.Spot, map[api.Spot]int) {
	t.Helper()
	tracks := tracksOf(t, b)
	var l []api.Spot
	told := map[api.Spot]int{}
	for i := first; i <= number; i++ {
		x, e := event.Inputs(tracks, i)
		wantErrno(t, "Inputs", e, api.OK)
		for k, y := range x {
			if s := (api.Spot{Track: tracks[k].Name, Number: i}); y.Known {
				l, told[s] = append(l, s), y.N
			}
		}
	}
	return tracks, l, told
}

// G2: the same spots as if one were left out after the other, and the tracks known only there have the same truth.
func TestReasonsByChance(t *testing.T) {
	d := dice(6)
	found := 0
	for range 600 {
		b, r := someBook(t, d), someRules(t, d)
		first, number := someFrames(d, b, 8)
		tracks, all, told := toldTracks(t, b, first, number)
		for _, rule := range []string{"y", "z"} {
			want := plainTruth(t, r, tracks, rule, first, number)
			s, truth, e := finding.Reasons(r, tracks, rule, first, number)
			if want == api.Unknown {
				wantWrong(t, "unknown", results(s, truth, e), api.ErrState)
				continue
			}
			wantErrno(t, "by chance", e, api.OK)
			wantSame(t, "by chance", truth, want)
			wantSame(t, "by chance", s, plainFewest(all, func(left []api.Spot) bool {
				return plainTruth(t, r, spotTracks(tracks, left, told), rule, first, number) == want
			}))
			if len(s) > 2 {
				found++
			}
		}
	}
	if found < 40 {
		t.Error("reasons with more than two spots:", found)
	}
}

// G2: as many spots as there can be, all of them needed; one more, also if it is of a track that no rule needs; and that the truth is unknown is asked first.
func TestManyReasons(t *testing.T) {
	ones := slices.Repeat([]int{1}, 2000)
	r := ruledBy(t, "rule a if for 2000 a = 1 rule b if for 2000 b = 1")
	s, truth, e := finding.Reasons(r, []api.Track{framed("a", 1, 5, ones...), framed("b", 1, 0)}, "a", 5, 2004)
	wantErrno(t, "2000", e, api.OK)
	wantSame(t, "2000", truth, api.True)
	wantSame(t, "2000", s, many(2000, func(i int) api.Spot { return api.Spot{Track: "a", Number: 5 + i} }))
	more := []api.Track{framed("a", 1, 5, ones...), framed("b", 1, 5, 1)}
	wantWrong(t, "one of another track", results(finding.Reasons(r, more, "a", 5, 2004)), api.ErrSize)
	wantWrong(t, "unknown with more", results(finding.Reasons(r, more, "b", 5, 2004)), api.ErrState)
	held := track("a", 1, series.MaxAt, good(0, 1))
	s, _, e = finding.Reasons(r, []api.Track{held, framed("b", 1, 0)}, "a", 0, 1999)
	wantErrno(t, "held", e, api.OK)
	wantSame(t, "held", len(s), 2000)
}
