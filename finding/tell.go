package finding

import (
	"strconv"
	"strings"

	"orangebox/api"
	"orangebox/event"
	"orangebox/frame"
)

// Tell writes a finding.
func Tell(b api.Book, f api.Finding) (string, api.Errno) {
	return TellAll(b, []api.Finding{f})
}

// TellAll writes findings, one behind the other. The book is looked at only once.
func TellAll(b api.Book, l []api.Finding) (string, api.Errno) {
	read, e := readBook(b)
	if e != api.OK {
		return "", e
	}
	text := ""
	for _, f := range l {
		if e := read.checkTold(f); e != api.OK {
			return "", e
		}
		text += read.tell(f)
	}
	return text, api.OK
}

func (r reading) checkTold(f api.Finding) api.Errno {
	if !event.IsName(f.Rule) {
		return api.ErrName
	}
	if !isTruth(f.Truth) || !isNumber(f.First) || !isNumber(f.Number) {
		return api.ErrRange
	}
	if len(f.Words) > MaxWords {
		return api.ErrSize
	}
	for _, w := range f.Words {
		if !isWhere(w) {
			return api.ErrRange
		}
		if !r.isSolid(w) {
			return api.ErrState
		}
	}
	return api.OK
}

func isNumber(number int) bool {
	return number >= 0 && number < api.Number
}

// tell writes a finding without errors.
func (r reading) tell(f api.Finding) string {
	truth := "false"
	if f.Truth == api.True {
		truth = "true"
	}
	text := line(f.Rule, "is", truth, "in", strconv.Itoa(f.Number), "from", strconv.Itoa(f.First))
	for _, w := range f.Words {
		text += r.tellWord(w)
	}
	return text
}

// tellWord writes a word that is solid.
func (r reading) tellWord(w api.Where) string {
	rest, _ := r.rest(w.Number)
	data, _, _ := frame.Data(int(rest.Frame[w.Word]))
	state := "good"
	if rest.States[w.Word] == api.WordMended {
		state = "mended"
	}
	return line("word", strconv.Itoa(w.Number), strconv.Itoa(w.Word), strconv.Itoa(data), state)
}

func line(parts ...string) string {
	return strings.Join(parts, " ") + "\n"
}
