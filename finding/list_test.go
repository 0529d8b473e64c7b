package finding_test

import (
	"fmt"
	"slices"
	"testing"

	"orangebox/api"
	"orangebox/finding"
)

// G4: for each rule that is true in one of the frames, the finding for the first one.
func TestFind(t *testing.T) {
	b := without(climb(t, 0, 30), 12)
	r := ruledBy(t, `rule never if alt > 29 rule over if alt > 11 rule low if low < 96 and alt > 0 rule sure if true rule pair if for 2 alt > 6
		rule up if rises alt > 8 rule here if rule over and rule low`)
	for name, c := range map[string]struct {
		first, last int
		want        []api.Finding
	}{
		"all frames": {0, 29, []api.Finding{
			found("over", 0, 13, api.True, wordsOf(13, 13, 3, 4)...),
			found("low", 0, 5, api.True, wordsOf(5, 5, 3, 4, 5)...),
			found("sure", 0, 0, api.True),
			found("pair", 0, 8, api.True, wordsOf(7, 8, 3, 4)...),
			found("up", 0, 9, api.True, wordsOf(8, 9, 3, 4)...),
			found("here", 0, 13, api.True, wordsOf(13, 13, 3, 4, 5)...),
		}},
		"some of them": {9, 12, []api.Finding{
			found("low", 9, 9, api.True, wordsOf(9, 9, 3, 4, 5)...),
			found("sure", 9, 9, api.True),
			found("pair", 9, 10, api.True, wordsOf(9, 10, 3, 4)...),
		}},
		"behind all": {40, 50, []api.Finding{found("sure", 40, 40, api.True)}},
	} {
		l, e := finding.Find(b, r, c.first, c.last)
		wantErrno(t, name, e, api.OK)
		wantSame(t, name, fmt.Sprint(l), fmt.Sprint(c.want))
		for _, f := range l {
			wantSame(t, name, f, evidenceOf(t, b, r, f.Rule, f.First, f.Number))
		}
	}
	none, e := finding.Find(b, api.Rules{}, 0, 29)
	wantErrno(t, "no rules", e, api.OK)
	wantNothing(t, "no rules", none)
}

// G4: the errors of Find in their order; those of Evidence only for rules that are true somewhere.
func TestWrongFind(t *testing.T) {
	b := climb(t, 0, 16)
	for name, c := range wrongAsked(t) {
		if c.rule != "a" || len(c.rules.Rules) == 0 {
			continue // of Find no rule has to be there
		}
		l, e := finding.Find(b, c.rules, c.first, c.number)
		wantErrno(t, name, e, c.want)
		if e != api.OK {
			wantNothing(t, name, l)
		}
	}
	wantWrong(t, "rules", results(finding.Find(b, wrongRules(), -1, -2)), api.ErrName)
	wantWrong(t, "endless rules", results(finding.Find(b, circular(), 0, 0)), api.ErrSize)
	wantWrong(t, "no track", results(finding.Find(b, ruledBy(t, "rule a if x > 1"), 0, 0)), api.ErrNone)
	wantWrong(t, "frames without rules", results(finding.Find(b, api.Rules{}, 0, 2000)), api.ErrSize)
	many := climb(t, 0, 320)
	r := ruledBy(t, "rule a if alt = 301 rule b if low < 0 rule c if low > 5")
	wantWrong(t, "more than 600 words", results(finding.Find(many, r, 0, 301)), api.ErrSize)
	l, e := finding.Find(many, r, 0, 300)
	wantErrno(t, "not true there", e, api.OK)
	wantSame(t, "not true there", l, []api.Finding{found("c", 0, 0, api.True, wordsOf(0, 0, 3, 5)...)})
}

// G4: the same rules as Evaluate finds, by chance.
func TestFindByChance(t *testing.T) {
	d := dice(9)
	for range 100 {
		b, r := someBook(t, d), someRules(t, d)
		first, last := someFrames(d, b, 15)
		tracks := plainTracks(t, b, all)
		var want []api.Finding
		for _, x := range r.Rules {
			for i := first; i <= last; i++ {
				if plainTruth(t, r, tracks, x.Name, first, i) == api.True {
					want = append(want, evidenceOf(t, b, r, x.Name, first, i))
					break
				}
			}
		}
		l, e := finding.Find(b, r, first, last)
		wantErrno(t, "by chance", e, api.OK)
		wantSame(t, "by chance", l, want)
	}
}

// G4: no mended words, then fewer words, then the rule, then the number, then the place.
func TestOrder(t *testing.T) {
	b := climb(t, 0, 16)
	b.Rests[3] = mended(b.Rests[3], 4)
	b.Rests[4] = doubtful(b.Rests[4])
	w := func(number, word int) api.Where { return api.Where{Number: number, Word: word} }
	l := []api.Finding{
		found("a", 0, 1, 0, w(3, 4)),                            // 0: mended
		found("b", 0, 9, 1, w(1, 1), w(2, 2)),                   // 1
		found("b", 0, 9, 2, w(1, 1)),                            // 2
		found("a", 0, 7, 2, w(5, 4), w(5, 3)),                   // 3
		found("a", 9, 6, 2, w(5, 4), w(5, 3)),                   // 4
		found("a", 0, 7, 1, w(4, 4), w(3, 3)),                   // 5: as 3
		found("z", 0, 0, 9),                                     // 6: no words
		found("a", 0, 1, 2, w(1, 1), w(3, 4), w(1, 1)),          // 7: mended
		found("A z", -5, -6, -7, w(99, 0), w(1, 1)),             // 8: nothing else is asked
		found("aa", 0, -1, 2, w(1, 1), w(1, 1)),                 // 9
		found("", 0, 0, 0, w(3, 4)),                             // 10: mended
		found("c", 0, 0, 0, w(3, 3), w(3, 5), w(4, 4), w(0, 0)), // 11: beside the mended one
	}
	numbers, e := finding.Order(b, l)
	wantErrno(t, "Order", e, api.OK)
	wantSame(t, "Order", numbers, []int{6, 2, 8, 4, 3, 5, 9, 1, 11, 10, 0, 7})
	numbers, e = finding.Order(b, nil)
	wantErrno(t, "nothing", e, api.OK)
	wantNothing(t, "nothing", numbers)
	same := make([]api.Finding, finding.MaxList)
	numbers, e = finding.Order(b, same)
	wantErrno(t, "500", e, api.OK)
	wantSame(t, "500", numbers, many(500, func(i int) int { return i }))
	same[0].Words = []api.Where{{Word: -1}}
	wantWrong(t, "501", results(finding.Order(b, append(same, api.Finding{}))), api.ErrSize)
	wantWrong(t, "a word", results(finding.Order(b, same)), api.ErrRange)
	long := found("a", 0, 0, 0, slices.Repeat([]api.Where{{}}, 400000)...)
	numbers, e = finding.Order(b, []api.Finding{long, {}})
	wantErrno(t, "a long one", e, api.OK)
	wantSame(t, "a long one", numbers, []int{1, 0})
	for _, x := range wrongWheres() {
		wantWrong(t, fmt.Sprint(x), results(finding.Order(b, []api.Finding{{}, found("a", 0, 0, 0, w(0, 0), x)})), api.ErrRange)
	}
}
