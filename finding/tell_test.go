package finding_test

import (
	"fmt"
	"strings"
	"testing"

	"orangebox/api"
	"orangebox/finding"
)

// G6: a line for the truth, and one for each word, in the order in which they stand.
func TestTell(t *testing.T) {
	b := climb(t, 0, 16)
	b.Rests[5] = mended(b.Rests[5], 4, 62)
	zero, last := api.Where{}, api.Where{Number: 15, Word: 63}
	for want, f := range map[string]api.Finding{
		"over is true in 5 from 0\nword 5 3 7 good\nword 5 4 5 mended\nword 5 5 95 good\n":     found("over", 0, 5, api.True, wordsOf(5, 5, 3, 4, 5)...),
		"a is false in 4194303 from 4194303\n":                                                 found("a", api.Number-1, api.Number-1, api.False),
		"a-1 is false in 0 from 7\nword 7 4 7 good\nword 6 4 6 good\nword 7 4 7 good\n":        found("a-1", 7, 0, api.False, api.Where{Number: 7, Word: 4}, api.Where{Number: 6, Word: 4}, api.Where{Number: 7, Word: 4}),
		"z is true in 1 from 1\nword 0 0 583 good\n":                                           found("z", 1, 1, api.True, zero),
		"z is true in 1 from 1\nword 3 0 1464 good\nword 3 1 3 good\nword 3 2 0 good\n":        found("z", 1, 1, api.True, wordsOf(3, 3, 0, 1, 2)...),
		fmt.Sprintf("z is true in 1 from 1\nword 15 63 %d good\n", b.Rests[15].Frame[63]%2048): found("z", 1, 1, api.True, last),
	} {
		s, e := finding.Tell(b, f)
		wantErrno(t, want, e, api.OK)
		wantSame(t, "Tell", s, want)
	}
	f := found("a", 0, 0, api.True, make([]api.Where, 600)...)
	s, e := finding.Tell(b, f)
	wantErrno(t, "600 words", e, api.OK)
	wantSame(t, "600 words", s, "a is true in 0 from 0\n"+strings.Repeat("word 0 0 583 good\n", 600))
}

// G6: findings one behind the other; the error of the first one that has one.
func TestTellAll(t *testing.T) {
	b := climb(t, 0, 16)
	one, other := found("over", 0, 5, api.True, wordsOf(5, 5, 3, 4)...), found("a", 1, 2, api.False)
	s, e := finding.TellAll(b, []api.Finding{one, other, one})
	wantErrno(t, "TellAll", e, api.OK)
	told := "over is true in 5 from 0\nword 5 3 7 good\nword 5 4 5 good\n"
	wantSame(t, "TellAll", s, told+"a is false in 2 from 1\n"+told)
	wantWrong(t, "a name, then a truth", results(finding.TellAll(b, []api.Finding{one, found("A", 0, 0, api.True), found("a", 0, 0, 9)})), api.ErrName)
	wantWrong(t, "a truth, then a name", results(finding.TellAll(b, []api.Finding{found("a", 0, 0, 9), found("A", 0, 0, api.True)})), api.ErrRange)
	s, e = finding.TellAll(b, nil)
	wantErrno(t, "TellAll of none", e, api.OK)
	wantSame(t, "TellAll of none", s, "")
}

// G6: the errors of Tell in their order.
func TestWrongTell(t *testing.T) {
	b := climb(t, 0, 16)
	b.Rests[5] = doubtful(b.Rests[5])
	for name, c := range map[string]struct {
		finding api.Finding
		want    api.Errno
	}{
		"zero":                     {api.Finding{}, api.ErrName},
		"unknown":                  {found("a", 0, 0, api.Unknown, make([]api.Where, 601)...), api.ErrRange},
		"no truth":                 {found("a", 0, 0, 3), api.ErrRange},
		"a negative first":         {found("a", -1, 0, api.True, make([]api.Where, 601)...), api.ErrRange},
		"first beyond":             {found("a", api.Number, 0, api.True), api.ErrRange},
		"a negative number":        {found("a", 0, -1, api.True), api.ErrRange},
		"number beyond":            {found("a", 0, api.Number, api.True, wordsOf(5, 5, 4)...), api.ErrRange},
		"too many words":           {found("a", 0, 0, api.True, append(make([]api.Where, 600), api.Where{Word: -1})...), api.ErrSize},
		"a doubtful word":          {found("a", 0, 0, api.True, append(wordsOf(4, 5, 4), api.Where{Word: -1})...), api.ErrState},
		"a word without a rest":    {found("a", 0, 0, api.True, wordsOf(16, 16, 4)...), api.ErrState},
		"range, then state":        {found("a", 0, 0, api.True, append([]api.Where{{Word: 64}}, wordsOf(5, 5, 4)...)...), api.ErrRange},
		"beyond, where nothing is": {found("a", 0, 0, api.True, api.Where{Number: api.Number}), api.ErrRange},
	} {
		wantWrong(t, name, results(finding.Tell(b, c.finding)), c.want)
	}
	for _, name := range wrongNames() {
		wantWrong(t, name, results(finding.Tell(b, found(name, -1, -1, 5))), api.ErrName)
	}
	for _, x := range wrongWheres() {
		wantWrong(t, fmt.Sprint(x), results(finding.Tell(b, found("a", 0, 0, api.True, x))), api.ErrRange)
	}
	for _, n := range beyond() {
		wantWrong(t, fmt.Sprint("first ", n), results(finding.Tell(b, found("a", n, 0, api.True))), api.ErrRange)
		wantWrong(t, fmt.Sprint("number ", n), results(finding.Tell(b, found("a", 0, n, api.True))), api.ErrRange)
		wantWrong(t, fmt.Sprint("truth ", n), results(finding.Tell(b, found("a", 0, 0, n))), api.ErrRange)
	}
}
