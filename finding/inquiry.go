package finding

import (
	"slices"

	"orangebox/api"
	"orangebox/event"
)

// inquiry asks a book for a rule in a frame.
type inquiry struct {
	book          reading   // with the tracks alone that decide the rule
	rules         api.Rules // those that decide it, with itself at the end
	rule          string
	first, number int
}

// ask returns the inquiry, or what is wrong with it.
func ask(b api.Book, r api.Rules, rule string, first, number int) (inquiry, api.Errno) {
	read, e := readBook(b)
	if e != api.OK {
		return inquiry{}, e
	}
	if e := checkRule(r, read.plain(), rule, first, number); e != api.OK {
		return inquiry{}, e
	}
	return read.inquiry(r, rule, first, number), api.OK
}

// inquiry wants all to be without errors.
func (r reading) inquiry(rules api.Rules, rule string, first, number int) inquiry {
	part := partOf(rules, rule)
	names, _ := event.Tracks(part)
	return inquiry{r.with(names), part, rule, first, number}
}

// truth returns the truth of the rule with all words.
func (q inquiry) truth() int {
	truths, _ := event.Evaluate(q.rules, q.book.plain(), q.first, q.number)
	return truths[len(truths)-1][q.number-q.first]
}

// words returns the words on which the rule could rest.
func (q inquiry) words() ([]api.Where, api.Errno) {
	return q.book.words(q.first, q.number)
}

// finding returns the truth of the rule with the words on which it rests.
func (q inquiry) finding() (api.Finding, api.Errno) {
	truth := q.truth()
	if truth == api.Unknown {
		return api.Finding{}, api.ErrState
	}
	words, e := q.words()
	if e != api.OK {
		return api.Finding{}, e
	}
	solid := slices.DeleteFunc(words, func(w api.Where) bool { return !q.book.isSolid(w) })
	if len(solid) > MaxWords {
		return api.Finding{}, api.ErrSize
	}
	return api.Finding{
		Rule: q.rule, First: q.first, Number: q.number, Truth: truth,
		Words: fewest(solid, q.byWords().has(truth)),
	}, api.OK
}

// byWords returns the question whose answer depends on the words that are left.
func (q inquiry) byWords() question[api.Where] {
	asked := question[api.Where]{frames: q.number - q.first + 1, tracks: len(q.book.tracks)}
	asked.watch, _ = event.New(q.rules, q.book.plain())
	for k, t := range q.book.tracks {
		for i, x := range t.inWords() {
			from, to := t.within(i, q.first, q.number)
			if x.Mark >= api.MarkMended && from <= to {
				asked.known = append(asked.known, known[api.Where]{k, from - q.first, to - q.first, x.N, t.words(i)})
			}
		}
	}
	return asked
}
