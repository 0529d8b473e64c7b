package desk_test

import (
	"fmt"
	"math"
	"testing"

	"orangebox/api"
	"orangebox/desk"
	"orangebox/event"
	"orangebox/finding"
)

func wantReport(t *testing.T, name string, c api.Case, b api.Book, first, last int, want string) {
	t.Helper()
	s, e := desk.Report(c, b, first, last)
	wantErrno(t, name, e, api.OK)
	wantText(t, name, s, want)
}

// reportedCase has rules and twins of which some tell something.
func reportedCase(t *testing.T) api.Case {
	t.Helper()
	c := someCase(t)
	c.Rules = ruled(t, rulesText+"rule mid if alt > 2 and alt < 6\n")
	c.Twins = []api.Twins{{A: "alt", B: "speed", Most: 4}, {A: "alt", B: "alt"}, {A: "speed", B: "g", Most: 17}}
	return c
}

// gappedBook is a book of two superframes without some frames, two of which differ in two places.
func gappedBook(t *testing.T, c api.Case) api.Book {
	t.Helper()
	b := bookOf(t, c, 0, superValues(1, 0), superValues(5, 1))
	b.Rests[19] = api.Rest{Number: 19, Conflict: true, Copies: 2}
	b.Rests[20] = api.Rest{Number: 20, Conflict: true, Copies: 2}
	b.Rests = append(b.Rests[:12], b.Rests[14:]...)
	return b
}

// J4: all kinds of lines, in their order.
func TestReport(t *testing.T) {
	c := reportedCase(t)
	b := gappedBook(t, c)
	wantReport(t, "all", c, b, 0, 31, `frames 0 31
gap 12 13
gap 19 20
conflict 19
conflict 20
event high 10 11 open
event high 14 15 open
event high 22 31 open
event fast 6 11 open
event fast 15 15 open
event fast 18 18 open
event fast 22 31 open
event mid 2 4 sure
event mid 16 16 sure
clash alt speed 4 11
clash alt speed 14 18
clash alt speed 21 31
clash speed g 3 3
clash speed g 5 5
clash speed g 7 7
clash speed g 9 9
clash speed g 11 11
clash speed g 15 18
clash speed g 21 31
high is true in 10 from 0
word 10 3 7 good
word 10 4 11 good
fast is true in 6 from 0
word 5 3 7 good
word 5 4 6 good
word 6 3 7 good
word 6 4 7 good
mid is true in 2 from 0
word 2 3 7 good
word 2 4 3 good
`)
}

// J4: what is partly in the frames is told whole, what is not is left out, and nothing ahead of the frames is known.
func TestReportOfSomeFrames(t *testing.T) {
	c := reportedCase(t)
	c.Twins = c.Twins[1:2]
	c.Rules.Rules = c.Rules.Rules[1:]
	b := gappedBook(t, c)
	b.Rests[4].States[4] = api.WordMended
	for _, x := range []struct {
		first, last int
		want        string
	}{
		{12, 12, "frames 12 12\ngap 12 13\n"},
		{13, 19, "frames 13 19\ngap 12 13\ngap 19 20\nconflict 19\nevent fast 15 15 open\nevent fast 18 18 open\nevent mid 16 16 sure\n" +
			"fast is true in 15 from 13\nword 14 3 7 good\nword 14 4 15 good\nword 15 3 7 good\nword 15 4 16 good\nmid is true in 16 from 13\nword 16 3 7 good\nword 16 4 5 good\n"},
		{4, 5, "frames 4 5\nevent mid 4 4 open\nmid is true in 4 from 4\nword 4 3 7 good\nword 4 4 5 mended\n"},
		{5, 6, "frames 5 6\nevent fast 6 6 open\nfast is true in 6 from 5\nword 5 3 7 good\nword 5 4 6 good\nword 6 3 7 good\nword 6 4 7 good\n"},
		{20, 21, "frames 20 21\ngap 19 20\nconflict 20\n"},
		{14, 18, "frames 14 18\nevent fast 15 15 open\nevent fast 18 18 open\nevent mid 16 16 sure\n" +
			"fast is true in 15 from 14\nword 14 3 7 good\nword 14 4 15 good\nword 15 3 7 good\nword 15 4 16 good\nmid is true in 16 from 14\nword 16 3 7 good\nword 16 4 5 good\n"},
		{32, 1000, "frames 32 1000\n"},
		{api.Number - 1, api.Number - 1, "frames 4194303 4194303\n"},
	} {
		wantReport(t, fmt.Sprint(x.first, " to ", x.last), c, b, x.first, x.last, x.want)
	}
	wantReport(t, "of nothing", api.Case{}, api.Book{}, 0, 1999, "frames 0 1999\n")
}

// J4: reports are those of the plainest reading.
func TestReportIsPlain(t *testing.T) {
	r := dice(5)
	for range 150 {
		c := chanceCase(t, r)
		b := chanceBook(t, r, c)
		first := r.IntN(30)
		last := first + r.IntN(60)
		if _, e := finding.Find(b, c.Rules, first, last); e != api.OK {
			wantWrong(t, "Report", results(desk.Report(c, b, first, last)), e)
			continue
		}
		wantReport(t, "by chance", c, b, first, last, plainReport(t, c, b, first, last))
	}
}

// J4: a book can have another version, other parts of parameters, and other meanings than the case.
func TestReportOfAnotherMap(t *testing.T) {
	c := reportedCase(t)
	c.Twins = nil
	b := gappedBook(t, c)
	c.Map.Version++
	c.Map.Params[0].Parts[0].Word = 40
	c.Map.Params[1].Kind = api.Unsigned
	c.Sources[0].Long, c.Sources[1].Meaning = 0, nil
	wantReport(t, "another map", c, b, 0, 31, plainReport(t, c, b, 0, 31))
	wantErrno(t, "CheckCase", desk.CheckCase(c), api.OK)
}

type reported struct {
	c           api.Case
	b           api.Book
	first, last int
}

// otherBooks are not those of a case.
func otherBooks() []fault[reported] {
	return []fault[reported]{
		{"fewer parameters", func(x *reported) { x.b.Map.Params, x.b.Sources = x.b.Map.Params[:2], x.b.Sources[:3] }, api.ErrForm},
		{"a parameter with another name", func(x *reported) { x.b.Map.Params[2].Name, x.b.Sources[3].Param = "flip", "flip" }, api.ErrForm},
		{"a parameter with another name in the case", func(x *reported) { x.c.Map.Params[2].Name, x.c.Sources[3].Param = "flip", "flip" }, api.ErrForm},
		{"parameters in another order", func(x *reported) { p := x.b.Map.Params; p[0], p[1] = p[1], p[0] }, api.ErrForm},
		{"fewer sources", func(x *reported) { x.b.Sources = x.b.Sources[:3] }, api.ErrForm},
		{"more sources", func(x *reported) { x.b.Sources = append(x.b.Sources, api.Source{Track: "more", Param: "flap"}) }, api.ErrForm},
		{"another track", func(x *reported) { x.b.Sources[3].Track = "flap" }, api.ErrForm},
		{"another parameter", func(x *reported) { x.b.Sources[0].Param = "load" }, api.ErrForm},
		{"sources in another order", func(x *reported) { s := x.b.Sources; s[2], s[3] = s[3], s[2] }, api.ErrForm},
	}
}

// J4: the errors of Report in their order.
func TestReportErrors(t *testing.T) {
	base := func() reported {
		c := reportedCase(t)
		return reported{c, gappedBook(t, c), 0, 31}
	}
	report := func(x reported) []any { return results(desk.Report(x.c, x.b, x.first, x.last)) }
	for _, other := range otherBooks() {
		wantInOrder(t, "Report", base, report, []fault[reported]{
			{"a wrong case", func(x *reported) { x.c.Rules.Phases = []string{"p", "p"} }, api.ErrTwice},
			{"a wrong map", func(x *reported) { x.b.Map.Version = -1 }, api.ErrRange},
			{"numbers that fall", func(x *reported) { x.b.Rests[0], x.b.Rests[1] = x.b.Rests[1], x.b.Rests[0] }, api.ErrOrder},
			other,
			{"first above last", func(x *reported) { x.first = x.last + 1 }, api.ErrRange},
			{"a negative first", func(x *reported) { x.first = -1 }, api.ErrRange},
			{"last beyond", func(x *reported) { x.first, x.last = api.Number-1, api.Number }, api.ErrRange},
			{"many frames", func(x *reported) { x.first, x.last = 0, event.MaxSpan }, api.ErrSize},
			{"many frames of findings", func(x *reported) { x.first, x.last = 0, finding.MaxFrames }, api.ErrSize},
		})
	}
	x := base()
	for _, b := range beyond() {
		wantWrong(t, fmt.Sprint("from ", b), results(desk.Report(x.c, x.b, b, 5)), api.ErrRange)
		wantWrong(t, fmt.Sprint("to ", b), results(desk.Report(x.c, x.b, 5, b)), api.ErrRange)
	}
	wantWrong(t, "all frames", results(desk.Report(x.c, x.b, math.MinInt, math.MaxInt)), api.ErrRange)
}

// J4: what Find refuses, Report refuses: more words than a finding can look at.
func TestReportOfManyWords(t *testing.T) {
	c := someCase(t)
	c.Rules = ruled(t, "rule long if for 304 alt >= 0\n")
	c.Twins = nil
	b := bookOf(t, c, 0, many(20, func(i int) []int { return superValues(0, 0) })...)
	s, e := desk.Report(c, b, 0, 302)
	wantErrno(t, "no finding", e, api.OK)
	wantText(t, "no finding", s, "frames 0 302\n")
	wantWrong(t, "a finding of 608 words", results(desk.Report(c, b, 0, 303)), api.ErrSize)
}
