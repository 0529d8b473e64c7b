package finding

import (
	"slices"

	"orangebox/api"
)

// Evidence returns the truth of a rule in a frame, with the words on which it rests.
func Evidence(b api.Book, r api.Rules, rule string, first, number int) (api.Finding, api.Errno) {
	q, e := ask(b, r, rule, first, number)
	if e != api.OK {
		return api.Finding{}, e
	}
	return q.finding()
}

// CheckFinding returns what is wrong with a finding.
func CheckFinding(b api.Book, r api.Rules, f api.Finding) ([]int, api.Errno) {
	q, e := ask(b, r, f.Rule, f.First, f.Number)
	if e != api.OK {
		return nil, e
	}
	if !isTruth(f.Truth) {
		return nil, api.ErrRange
	}
	if len(f.Words) > MaxWords {
		return nil, api.ErrSize
	}
	for i, w := range f.Words {
		if !isWhere(w) {
			return nil, api.ErrRange
		}
		if i > 0 && compareWheres(f.Words[i-1], w) >= 0 {
			return nil, api.ErrOrder
		}
	}
	return q.faults(f), api.OK
}

// Missing returns the words that would have to be known, if the truth of a rule is unknown.
func Missing(b api.Book, r api.Rules, rule string, first, number int) ([]api.Where, api.Errno) {
	q, e := ask(b, r, rule, first, number)
	if e != api.OK {
		return nil, e
	}
	words, e := q.words()
	if e != api.OK || q.truth() != api.Unknown {
		return nil, e
	}
	return slices.DeleteFunc(words, q.book.isSolid), api.OK
}

func isTruth(truth int) bool {
	return truth == api.False || truth == api.True
}

func (q inquiry) faults(f api.Finding) []int {
	var faults []int
	if slices.ContainsFunc(f.Words, func(w api.Where) bool { return !q.book.isSolid(w) }) {
		faults = append(faults, api.FindingWord)
	}
	isEnough := q.byWords().has(f.Truth)
	switch {
	case !isEnough(setOf(f.Words)):
		faults = append(faults, api.FindingTruth)
	case len(fewest(f.Words, isEnough)) < len(f.Words):
		faults = append(faults, api.FindingMore)
	}
	return faults
}
