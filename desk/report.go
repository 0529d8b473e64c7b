package desk

import (
	"slices"
	"strconv"
	"strings"

	"orangebox/api"
	"orangebox/event"
	"orangebox/finding"
	"orangebox/salvage"
)

// Report writes what is missing, what happened, and what shows it, in the frames from one to another one.
func Report(c api.Case, b api.Book, first, last int) (string, api.Errno) {
	if e := CheckCase(c); e != api.OK {
		return "", e
	}
	tracks, e := finding.Tracks(b)
	if e != api.OK {
		return "", e
	}
	if !isBookOf(c, b) {
		return "", api.ErrForm
	}
	events, e := event.Events(c.Rules, tracks, first, last)
	if e != api.OK {
		return "", e
	}
	clashes, e := finding.Clashes(tracks, c.Twins, first, last)
	if e != api.OK {
		return "", e
	}
	found, e := finding.Find(b, c.Rules, first, last)
	if e != api.OK {
		return "", e
	}
	told, e := finding.TellAll(b, found)
	if e != api.OK {
		return "", e
	}
	return line("frames", strconv.Itoa(first), strconv.Itoa(last)) + missing(b.Rests, first, last) + happened(c, events, clashes) + told, api.OK
}

// isBookOf reports whether the parameters and the sources of a book have the names of those of a case.
func isBookOf(c api.Case, b api.Book) bool {
	return slices.EqualFunc(c.Map.Params, b.Map.Params, func(p, q api.Param) bool { return p.Name == q.Name }) &&
		slices.EqualFunc(c.Sources, b.Sources, func(s, u api.Source) bool { return s.Track == u.Track && s.Param == u.Param })
}

// missing writes the gaps and the conflicts in frames. It wants rests without errors.
func missing(l []api.Rest, first, last int) string {
	var out strings.Builder
	gaps, _ := salvage.Gaps(l)
	for _, g := range gaps {
		if g.From <= last && g.To >= first {
			out.WriteString(line("gap", strconv.Itoa(g.From), strconv.Itoa(g.To)))
		}
	}
	conflicts, _ := salvage.Conflicts(l)
	for _, number := range conflicts {
		if number >= first && number <= last {
			out.WriteString(line("conflict", strconv.Itoa(number)))
		}
	}
	return out.String()
}

func happened(c api.Case, events []api.Event, clashes []api.Clash) string {
	var out strings.Builder
	for _, v := range events {
		certainty := "open"
		if v.Begins && v.Ends {
			certainty = "sure"
		}
		out.WriteString(line("event", c.Rules.Rules[v.Rule].Name, strconv.Itoa(v.From), strconv.Itoa(v.To), certainty))
	}
	for _, k := range clashes {
		twins := c.Twins[k.Twins]
		out.WriteString(line("clash", twins.A, twins.B, strconv.Itoa(k.From), strconv.Itoa(k.To)))
	}
	return out.String()
}
