package finding_test

import (
	"fmt"
	"slices"
	"testing"

	"orangebox/api"
	"orangebox/finding"
	"orangebox/series"
)

func found(rule string, first, number, truth int, words ...api.Where) api.Finding {
	return api.Finding{Rule: rule, First: first, Number: number, Truth: truth, Words: words}
}

// G3: words are left out in their order, as long as the truth stays the same, and those that are not solid first of all.
func TestEvidence(t *testing.T) {
	b := climb(t, 0, 30)
	b.Rests[3] = mended(b.Rests[3], 3, 4)
	b.Rests[8] = doubtful(b.Rests[8])
	r := ruledBy(t, `phase p phase q move p q if alt > 4 rule over if alt > 10 rule any if within 4 alt >= 5 rule each if for 2 alt < 4
		rule later if phase q rule both if alt < 20 and low > 3 rule sure if true rule known if steady alt 5 3`)
	for name, c := range map[string]api.Finding{
		"one":                     found("over", 0, 11, api.True, wordsOf(11, 11, 3, 4)...),
		"false":                   found("over", 0, 10, api.False, wordsOf(10, 10, 3, 4)...),
		"the last of several":     found("any", 0, 11, api.True, wordsOf(11, 11, 3, 4)...),
		"one that is doubtful":    found("any", 0, 8, api.True, wordsOf(7, 7, 3, 4)...),
		"mended words":            found("each", 0, 3, api.True, wordsOf(2, 3, 3, 4)...),
		"from first on":           found("each", 4, 4, api.False, wordsOf(4, 4, 3, 4)...),
		"a phase":                 found("later", 3, 9, api.True, wordsOf(9, 9, 3, 4)...),
		"not that phase":          found("later", 2, 4, api.False, wordsOf(2, 4, 3, 4)...),
		"two tracks":              found("both", 5, 9, api.True, wordsOf(9, 9, 3, 4, 5)...),
		"false by the second one": found("both", 0, 22, api.False, wordsOf(22, 22, 3, 4)...),
		"no words":                found("sure", 0, 12, api.True),
		"three numbers":           found("known", 0, 12, api.True, wordsOf(10, 12, 3, 4)...),
	} {
		f := evidenceOf(t, b, r, c.Rule, c.First, c.Number)
		wantSame(t, name, f.Words, c.Words)
		f.Words, c.Words = nil, nil
		wantSame(t, name, f, c)
	}
	wantWrong(t, "doubtful", results(finding.Evidence(b, r, "over", 0, 8)), api.ErrState)
	wantWrong(t, "ahead of first", results(finding.Evidence(b, r, "each", 3, 3)), api.ErrState)
	wantWrong(t, "behind all", results(finding.Evidence(b, r, "over", 0, 32)), api.ErrState)
}

// G3: one sample that is held long is told once, with all frames of its cell.
func TestEvidenceThatIsHeld(t *testing.T) {
	b := slow(t, 3, series.MaxAt)
	for i := 2; i >= 0; i-- {
		b.Rests = slices.Insert(b.Rests, i+1, sound(holding(t, 16*i+4, 5)))
	}
	b.Map.Params[0].Parts = []api.Part{{Frame: 4, Word: 9, Bits: 3}, {Word: 4, Bits: 3}}
	r := ruledBy(t, "rule a if for 20 alt >= 0")
	want := []api.Where{{Number: 0, Word: 3}, {Number: 0, Word: 4}, {Number: 4, Word: 3}, {Number: 4, Word: 9}, {Number: 16, Word: 3}, {Number: 16, Word: 4}, {Number: 20, Word: 3}, {Number: 20, Word: 9}}
	f := evidenceOf(t, b, r, "a", 2, 30)
	wantSame(t, "two samples", f.Words, want)
	wantSame(t, "what the second one holds", evidenceOf(t, b, r, "a", 12, 35).Words, append(want[4:8:8], api.Where{Number: 32, Word: 3}, api.Where{Number: 32, Word: 4}, api.Where{Number: 36, Word: 3}, api.Where{Number: 36, Word: 9}))
	b.Sources[0].Long = 64*5 + 63
	wantWrong(t, "not held up to the next one", results(finding.Evidence(b, r, "a", 2, 30)), api.ErrState)
	r = ruledBy(t, "rule a if within 3 alt = 5")
	wantSame(t, "held up to there", evidenceOf(t, b, r, "a", 0, 7).Words, want[:4])
	wantWrong(t, "not any longer", results(finding.Evidence(b, r, "a", 0, 8)), api.ErrState)
}

// G3: 600 solid words can be looked at, and not one more; words that are not solid do not count.
func TestManyWords(t *testing.T) {
	b := climb(t, 0, 320)
	b.Map.Params[1].First, b.Map.Params[1].Every = 9, 16
	r := ruledBy(t, "rule a if for 300 alt >= 0 rule b if rule a and (low > 3000 or true) rule c if for 302 alt >= 0")
	f := evidenceOf(t, b, r, "a", 10, 309)
	wantSame(t, "600", f.Words, wordsOf(10, 309, 3, 4))
	wantSame(t, "600", len(f.Words), finding.MaxWords)
	wantSame(t, "faults", faultsOf(t, b, r, f), []int(nil))
	wantWrong(t, "more", results(finding.Evidence(b, r, "b", 10, 309)), api.ErrSize)
	wantWrong(t, "602", results(finding.Evidence(b, r, "a", 9, 309)), api.ErrSize)
	wantWrong(t, "unknown with more", results(finding.Evidence(b, r, "c", 9, 309)), api.ErrState)
	b.Rests[9] = doubtful(b.Rests[9])
	wantSame(t, "602, two of them doubtful", evidenceOf(t, b, r, "a", 9, 309).Words, f.Words)
}

// G3: samples that could be held from too long before.
func TestEvidenceTooLong(t *testing.T) {
	b := withRests(slow(t, 0, 128064), sound(holding(t, 2992, 5)))
	b.Sources = append(b.Sources, source("other", "a", 63))
	r := ruledBy(t, "rule a if alt > 4 rule b if alt > 4 and other > 4 rule c if other > 4")
	wantWrong(t, "known", results(finding.Evidence(b, r, "a", 2992, 2992)), api.ErrSize)
	wantWrong(t, "unknown", results(finding.Evidence(b, r, "a", 2991, 2991)), api.ErrState)
	wantWrong(t, "with another one", results(finding.Evidence(b, r, "b", 2992, 2992)), api.ErrSize)
	wantSame(t, "not needed", evidenceOf(t, b, r, "c", 2992, 2992).Words, wordsOf(2992, 2992, 3, 4))
	wantWrong(t, "Missing", results(finding.Missing(b, r, "a", 2991, 2991)), api.ErrSize)
	wantWrong(t, "Missing, known", results(finding.Missing(b, r, "a", 2992, 2992)), api.ErrSize)
	wantSame(t, "Missing, not needed", missingOf(t, b, r, "c", 2993, 2993), []api.Where(nil))
	wantWrong(t, "Find", results(finding.Find(b, r, 2990, 2999)), api.ErrSize)
	f := found("a", 2992, 2992, api.True, wordsOf(2992, 2992, 3, 4)...)
	wantSame(t, "CheckFinding does not ask", faultsOf(t, b, r, f), []int(nil))
	b.Sources[0].Long--
	wantSame(t, "not too long", evidenceOf(t, b, r, "a", 2992, 2992), f)
}

// G3: the same words as if one were left out after the other; who has them alone finds the same, and no part of them is enough.
func TestEvidenceByChance(t *testing.T) {
	d := dice(8)
	long := 0
	for range 120 {
		b, r := someBook(t, d), someRules(t, d)
		first, number := someFrames(d, b, 8)
		tracks := plainTracks(t, b, all)
		for _, rule := range []string{"y", "z"} {
			truth := plainTruth(t, r, tracks, rule, first, number)
			words := plainWords(t, b, plainNeeded(r, rule), first, number)
			open := slices.DeleteFunc(slices.Clone(words), func(w api.Where) bool { return plainSolid(b, w) })
			if truth == api.Unknown {
				wantSame(t, "Missing", missingOf(t, b, r, rule, first, number), open)
				wantWrong(t, "unknown", results(finding.Evidence(b, r, rule, first, number)), api.ErrState)
				continue
			}
			wantSame(t, "Missing", missingOf(t, b, r, rule, first, number), []api.Where(nil))
			with := func(left []api.Where) int {
				return plainTruth(t, r, plainTracks(t, b, inList(left)), rule, first, number)
			}
			solid := slices.DeleteFunc(words, func(w api.Where) bool { return !plainSolid(b, w) })
			f := evidenceOf(t, b, r, rule, first, number)
			if len(solid) < 40 {
				wantSame(t, "one after the other", f.Words, plainFewest(solid, func(left []api.Where) bool { return with(left) == truth }))
			}
			wantSame(t, "the truth", f, found(rule, first, number, truth, f.Words...))
			wantSame(t, "alone", with(f.Words), truth)
			for i := range f.Words {
				wantSame(t, "without one", with(slices.Delete(slices.Clone(f.Words), i, i+1)), api.Unknown)
			}
			wantSame(t, "faults", faultsOf(t, b, r, f), []int(nil))
			if len(f.Words) > 4 {
				long++
			}
		}
	}
	if long < 10 {
		t.Error("findings with more than four words:", long)
	}
}

// G3: what is wrong with a finding, in order.
func TestCheckFinding(t *testing.T) {
	b := climb(t, 0, 30)
	b.Rests[3] = mended(b.Rests[3], 3, 4)
	b.Rests[8] = doubtful(b.Rests[8])
	b = without(b, 20)
	r := ruledBy(t, "rule over if alt > 10 rule any if within 4 alt >= 5 rule sure if true")
	for name, c := range map[string]struct {
		finding api.Finding
		want    []int
	}{
		"right":                     {found("over", 0, 11, api.True, wordsOf(11, 11, 3, 4)...), nil},
		"right without words":       {found("sure", 0, 11, api.True), nil},
		"other words are enough":    {found("any", 0, 11, api.True, wordsOf(9, 9, 3, 4)...), nil},
		"mended words":              {found("over", 0, 3, api.False, wordsOf(3, 3, 3, 4)...), nil},
		"another first":             {found("over", 11, 11, api.True, wordsOf(11, 11, 3, 4)...), nil},
		"not enough":                {found("over", 0, 11, api.True, api.Where{Number: 11, Word: 4}), []int{api.FindingTruth}},
		"none":                      {found("over", 0, 11, api.True), []int{api.FindingTruth}},
		"the contrary":              {found("over", 0, 11, api.False, wordsOf(11, 11, 3, 4)...), []int{api.FindingTruth}},
		"true of what is false":     {found("over", 0, 10, api.True, wordsOf(10, 10, 3, 4)...), []int{api.FindingTruth}},
		"one too many":              {found("over", 0, 11, api.True, wordsOf(11, 11, 3, 4, 5)...), []int{api.FindingMore}},
		"one that says nothing":     {found("over", 0, 11, api.True, wordsOf(11, 11, 0, 3, 4)...), []int{api.FindingMore}},
		"two ways":                  {found("any", 0, 11, api.True, wordsOf(9, 10, 3, 4)...), []int{api.FindingMore}},
		"any word for what is sure": {found("sure", 0, 11, api.True, api.Where{}), []int{api.FindingMore}},
		"one not solid, and more":   {found("over", 0, 11, api.True, append(wordsOf(8, 8, 3), wordsOf(11, 11, 3, 4)...)...), []int{api.FindingWord, api.FindingMore}},
		"not solid":                 {found("over", 0, 8, api.False, wordsOf(8, 8, 3, 4)...), []int{api.FindingWord, api.FindingTruth}},
		"without a rest, and more":  {found("over", 0, 11, api.True, append(wordsOf(11, 11, 3, 4), wordsOf(20, 20, 3)...)...), []int{api.FindingWord, api.FindingMore}},
		"unknown whatever words":    {found("over", 0, 20, api.True, wordsOf(0, 7, 3, 4)...), []int{api.FindingTruth}},
		"behind all frames":         {found("sure", 0, 11, api.True, api.Where{Number: api.Number - 1, Word: 63}), []int{api.FindingWord, api.FindingMore}},
	} {
		wantSame(t, name, faultsOf(t, b, r, c.finding), c.want)
	}
	f := found("over", 0, 11, api.True, wordsOf(11, 11, 3, 4)...)
	b.Sources[0].Long = 62
	wantSame(t, "not held up to the last tick", faultsOf(t, b, r, f), []int{api.FindingTruth})
	b.Sources[0].Long = 64 + 62
	f.Words = wordsOf(10, 10, 3, 4)
	f.Truth = api.False
	wantSame(t, "not held up to the next frame", faultsOf(t, b, r, f), []int{api.FindingTruth})
}

// G3: the errors of findings in their order, behind those of the rules and the frames.
func TestWrongFindings(t *testing.T) {
	b := climb(t, 0, 16)
	r := ruledBy(t, "rule a if alt > 3")
	w := func(l ...int) []api.Where {
		var words []api.Where
		for i := 0; i < len(l); i += 2 {
			words = append(words, api.Where{Number: l[i], Word: l[i+1]})
		}
		return words
	}
	for name, c := range map[string]struct {
		finding api.Finding
		want    api.Errno
	}{
		"zero":                        {api.Finding{}, api.ErrNone},
		"the frame, then the truth":   {found("a", 5, 4, 7), api.ErrRange},
		"unknown":                     {found("a", 0, 5, api.Unknown, make([]api.Where, 601)...), api.ErrRange},
		"a truth above":               {found("a", 0, 5, 3), api.ErrRange},
		"a truth below":               {found("a", 0, 5, -1), api.ErrRange},
		"too many words":              {found("a", 0, 5, api.True, append(wordsOf(0, 599, 4), w(-1, 0)...)...), api.ErrSize},
		"as many as there can be":     {found("a", 0, 5, api.True, wordsOf(0, 599, 4)...), api.OK},
		"equal words":                 {found("a", 0, 5, api.True, w(5, 4, 5, 4)...), api.ErrOrder},
		"words that fall":             {found("a", 0, 5, api.True, w(5, 4, 5, 3)...), api.ErrOrder},
		"numbers that fall":           {found("a", 0, 5, api.True, w(5, 3, 4, 4)...), api.ErrOrder},
		"range, then order":           {found("a", 0, 5, api.True, w(5, 3, 4, 64)...), api.ErrRange},
		"order, then the next one":    {found("a", 0, 5, api.True, w(5, 3, 5, 3, -1, 0)...), api.ErrOrder},
		"range, then the next one":    {found("a", 0, 5, api.True, w(-1, 3, 5, 3, 5, 3)...), api.ErrRange},
		"numbers that rise are right": {found("a", 0, 5, api.True, w(4, 63, 5, 0)...), api.OK},
	} {
		l, e := finding.CheckFinding(b, r, c.finding)
		wantErrno(t, name, e, c.want)
		if e != api.OK {
			wantNothing(t, name, l)
		}
	}
	for _, x := range wrongWheres() {
		wantWrong(t, fmt.Sprint(x), results(finding.CheckFinding(b, r, found("a", 0, 5, api.True, x))), api.ErrRange)
	}
	for _, n := range beyond() {
		wantWrong(t, fmt.Sprint("truth ", n), results(finding.CheckFinding(b, r, found("a", 0, 5, n))), api.ErrRange)
	}
}

// G3: the words that would have to be known, if the truth is unknown.
func TestMissing(t *testing.T) {
	b := without(climb(t, 0, 20), 12, 13)
	b.Rests[9] = doubtful(b.Rests[9], 5)
	b.Rests[10] = mended(b.Rests[10], 3, 4)
	r := ruledBy(t, "rule over if alt > 10 rule each if for 4 alt < 500 rule both if alt > 3 and low > 200 rule low if low > 3")
	for name, c := range map[string]struct {
		rule          string
		first, number int
		want          []api.Where
	}{
		"one frame":           {"over", 12, 12, wordsOf(12, 12, 3, 4)},
		"two, without others": {"over", 11, 13, wordsOf(12, 13, 3, 4)},
		"doubtful":            {"over", 0, 9, wordsOf(9, 9, 3, 4)},
		"a lost word":         {"low", 9, 9, wordsOf(9, 9, 3, 5)},
		"all that there are":  {"each", 8, 13, append(wordsOf(9, 9, 3, 4), wordsOf(12, 13, 3, 4)...)},
		"two tracks":          {"both", 12, 13, wordsOf(12, 13, 3, 4, 5)},
		"known":               {"over", 0, 11, nil},
		"known to be false":   {"both", 0, 11, nil},
		"ahead of first":      {"each", 0, 2, nil},
		"behind all":          {"over", 32, 33, nil},
	} {
		wantSame(t, name, missingOf(t, b, r, c.rule, c.first, c.number), c.want)
	}
	b.Sources[0].Long = 127
	wantSame(t, "what could be held", missingOf(t, b, r, "over", 13, 13), wordsOf(12, 13, 3, 4))
}
