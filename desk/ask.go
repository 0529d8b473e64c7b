package desk

import (
	"strings"

	"orangebox/api"
	"orangebox/event"
	"orangebox/finding"
	"orangebox/salvage"
	"orangebox/series"
)

// Commands that ask the book.

func (d *Desk) gaps(order) (string, api.Errno) {
	l, e := salvage.Gaps(d.book.Rests)
	if e != api.OK {
		return "", e
	}
	var out strings.Builder
	for _, g := range l {
		out.WriteString(line(digits(g.From, g.To)...))
	}
	return out.String() + done(), api.OK
}

func (d *Desk) seconds(order) (string, api.Errno) {
	l, e := Seconds(*d.book)
	if e != api.OK || len(l) == 0 {
		return done(), e
	}
	return line(digits(l...)...) + done(), api.OK
}

func (d *Desk) show(o order) (string, api.Errno) {
	l, e := Show(*d.book, o.numbers[0])
	if e != api.OK {
		return "", e
	}
	var out strings.Builder
	for _, x := range l {
		for _, s := range x.Samples {
			out.WriteString(line(append([]string{x.Track}, series.SampleWords(s)...)...))
		}
	}
	return out.String() + done(), api.OK
}

func (d *Desk) series(o order) (string, api.Errno) {
	l, e := finding.Tracks(*d.book)
	if e != api.OK {
		return "", e
	}
	i := event.TrackNumber(l, o.name)
	if i < 0 {
		return "", api.ErrNone
	}
	text, e := series.Print(l[i].Series)
	return text + done(), e
}

func (d *Desk) truth(o order) (string, api.Errno) {
	truth, e := finding.Truth(*d.book, d.theCase.Rules, o.name, o.numbers[0], o.numbers[1])
	words := [...]string{api.Unknown: "unknown", api.False: "false", api.True: "true"}
	return done(words[truth]), e
}

func (d *Desk) evidence(o order) (string, api.Errno) {
	f, e := finding.Evidence(*d.book, d.theCase.Rules, o.name, o.numbers[0], o.numbers[1])
	if e != api.OK {
		return "", e
	}
	text, e := finding.Tell(*d.book, f)
	return text + done(), e
}

func (d *Desk) report(o order) (string, api.Errno) {
	text, e := Report(d.theCase, *d.book, o.numbers[0], o.numbers[1])
	return text + done(), e
}
