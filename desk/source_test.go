package desk_test

import (
	"fmt"
	"math/rand/v2"
	"strconv"
	"strings"
	"testing"

	"orangebox/api"
	"orangebox/desk"
	"orangebox/finding"
	"orangebox/series"
)

func wantPrinted(t *testing.T, l []api.Source, want string) {
	t.Helper()
	s, e := desk.PrintSources(l)
	wantErrno(t, "PrintSources", e, api.OK)
	wantText(t, "PrintSources", s, want)
	read, line, e := desk.ReadSources(s)
	wantErrno(t, "ReadSources of "+s, e, api.OK)
	wantSame(t, "line", line, 0)
	wantSame(t, "ReadSources", read, l)
}

func meaning(den, low, high int, l ...api.Line) []api.Calibration {
	return []api.Calibration{{Den: den, Low: low, High: high, Lines: l}}
}

// J5
func TestPrintSources(t *testing.T) {
	const v, n = 1 << 40, series.MaxN
	wantPrinted(t, nil, "")
	wantPrinted(t, []api.Source{{Track: "alt", Param: "speed", Long: 63}}, "alt speed 63\n")
	wantPrinted(t, []api.Source{
		{Track: "alt", Param: "speed", Meaning: meaning(10, 0, 400, api.Line{From: 0, To: 100, A: 5, B: -20}), Long: 100},
		{Track: "a-1", Param: "z9-"},
		{Track: "alt", Param: "speed", Meaning: meaning(1000000, -n, n, api.Line{From: -v, To: -v, A: 0, B: n}, api.Line{From: 0, To: 0, A: -1 << 20, B: 0}, api.Line{From: v, To: v, A: 1, B: -n}), Long: series.MaxAt},
		{Track: strings.Repeat("x", 30), Param: "maps", Long: 7},
	}, "alt speed 100 10 0 400 0 100 5 -20\na-1 z9- 0\n"+
		"alt speed 1099511627776 1000000 -1125899906842624 1125899906842624 -1099511627776 -1099511627776 0 1125899906842624 0 0 -1048576 0 1099511627776 1099511627776 1 -1125899906842624\n"+
		strings.Repeat("x", 30)+" maps 7\n")
}

// J5: ReadSources makes of PrintSources the same.
func TestReadOfPrint(t *testing.T) {
	r := dice(6)
	for range 300 {
		l := many(r.IntN(6), func(int) api.Source { return chanceSource(r) })
		s, e := desk.PrintSources(l)
		wantErrno(t, "PrintSources", e, api.OK)
		var want strings.Builder
		for _, x := range l {
			fmt.Fprint(&want, x.Track, " ", x.Param, " ", x.Long)
			for _, c := range x.Meaning {
				fmt.Fprint(&want, " ", c.Den, " ", c.Low, " ", c.High)
				for _, k := range c.Lines {
					fmt.Fprint(&want, " ", k.From, " ", k.To, " ", k.A, " ", k.B)
				}
			}
			fmt.Fprintln(&want)
		}
		wantText(t, "PrintSources", s, want.String())
		wantPrinted(t, l, s)
	}
}

func chanceSource(r *rand.Rand) api.Source {
	s := api.Source{Track: pick(r, "a", "b-2", "track"), Param: pick(r, "x", "y0"), Long: pick(r, 0, 63, series.MaxAt, r.IntN(1<<30))}
	if r.IntN(3) > 0 {
		s.Meaning = []api.Calibration{chanceMeaning(r)}
	}
	return s
}

// J5: as much as there can be.
func TestManySources(t *testing.T) {
	const v, n = 1 << 40, series.MaxN
	l := many(finding.MaxSources, func(i int) api.Source {
		lines := many(series.MaxLines, func(k int) api.Line { return api.Line{From: -v + k, To: -v + k, A: 100, B: -n + v*100} })
		return api.Source{Track: strings.Repeat("t", 30), Param: strings.Repeat("p", 30), Meaning: meaning(1000000, -n, -n, lines...), Long: series.MaxAt}
	})
	s, e := desk.PrintSources(l)
	wantErrno(t, "PrintSources", e, api.OK)
	wantPrinted(t, l, s)
	wantWrong(t, "one more", results(desk.PrintSources(append(l, l[0]))), api.ErrSize)
	wantRefused(t, "one more", s+"t p 0\n", 0, api.ErrSize)
	wantRefused(t, "one more, and an error", "t P 0\n"+s, 0, api.ErrSize)
}

func wantRefused(t *testing.T, name, text string, line int, want api.Errno) {
	t.Helper()
	l, n, e := desk.ReadSources(text)
	if n != line || e != want {
		t.Errorf("%s: line %d, error %d, want %d, %d", name, n, e, line, want)
	}
	wantNothing(t, name, l)
}

// J5: what is not as PrintSources writes it, with the number of the first such line.
func TestReadSyntax(t *testing.T) {
	for _, line := range []string{
		"", " ", "  ", "a", "a x", "a x ", " a x 1", "a x 1 ", "a  x 1", "a x  1", "a\tx 1", "a x\t1", "a x 1\r", "a x 1\x00", "1", "a 1",
		"a x y", "a x -", "a x -0", "a x 01", "a x 00", "a x +1", "a x 1.0", "a x 0x1", "a x 1_0", "a x 1e3", "a x \u0661", "a x 1000000000000000000", "a x -1000000000000000000", "a x --1",
		"a x 1 1", "a x 1 1 0", "a x 1 1 0 9", "a x 1 1 0 9 1", "a x 1 1 0 9 1 2", "a x 1 1 0 9 1 2 3", "a x 1 1 0 9 1 2 3 4 5", "a x 1 1 0 9 1 2 3 4 5 6 7", "a x 1 1 0 9 1 2 3 4 5 6 7 8 9",
		"a x 1 1 0 9 1 2 3 04", "a x 1 1 0 9 1 2 3 -0", "a x 1 1 0 9 1 2 3  4", "a x 1 1 0 9 1 2 3 4 ", "a x 1 1 0 9 1 2 3 x", "a x 1 -0 0 9 1 2 3 4", "a x 1 01 0 9 1 2 3 4",
		"a x 1 # b", "# a x 1",
	} {
		wantRefused(t, strconv.Quote(line)+" in line 0", line+"\n", 0, api.ErrSyntax)
		wantRefused(t, strconv.Quote(line)+" in line 2", "A B -7\na x 1\n"+line+"\n?\n", 2, api.ErrSyntax)
	}
	wantRefused(t, "the end of line 0", "a x 1", 0, api.ErrSyntax)
	wantRefused(t, "the end of line 1", "a x 1\nb x 2", 1, api.ErrSyntax)
	wantRefused(t, "the end of line 2, behind another error", "a x 1\nb x\nb x 2", 1, api.ErrSyntax)
	wantRefused(t, "an empty line at the end", "a x 1\n\n", 1, api.ErrSyntax)
}

// J5: behind all lines the errors of PrintSources, with the line of the source.
func TestReadChecks(t *testing.T) {
	for name, c := range map[string]struct {
		line string
		want api.Errno
	}{
		"a track":            {"A x 1", api.ErrName},
		"a parameter":        {"a X 1", api.ErrName},
		"a number as name":   {"a 1 1", api.ErrName},
		"a word as track":    {"rule x 1", api.ErrName},
		"a word as param":    {"a if 1", api.ErrName},
		"a name, then Long":  {"a X -1", api.ErrName},
		"Den":                {"a x -1 0 0 9 0 1 1 0", api.ErrRange},
		"Low":                {"a x 1 1 9 0 0 1 1 0", api.ErrRange},
		"lines out of order": {"a x -1 1 0 9 0 1 1 0 1 2 1 0", api.ErrOrder},
		"many lines":         {"a x -1 1 0 9" + strings.Repeat(" 0 0 0 0", series.MaxLines+1), api.ErrSize},
		"a negative Long":    {"a x -1", api.ErrRange},
		"Long beyond":        {"a x 1099511627777 1 0 9 0 1 1 0", api.ErrRange},
		"18 digits":          {"a x 999999999999999999", api.ErrRange},
		"18 digits below 0":  {"a x -999999999999999999", api.ErrRange},
	} {
		wantRefused(t, name, c.line+"\n", 0, c.want)
		wantRefused(t, name+" behind others", "a x 1\na x 1\n"+c.line+"\n? x 1\n", 2, c.want)
		wantRefused(t, name+" ahead of syntax", c.line+"\na x 1\na x\n", 2, api.ErrSyntax)
	}
	for _, name := range wrongNames() {
		wantRefused(t, strconv.Quote(name), "a x 1\n"+name+" x 1\n", 1, api.ErrName)
		wantRefused(t, strconv.Quote(name), "a x 1\na "+name+" 1\n", 1, api.ErrName)
	}
}

// J5: 200000 bytes are permitted, more are not, whatever they are.
func TestReadSize(t *testing.T) {
	const most = 200000
	whole := strings.Repeat("a x 1\n", most/6)
	whole += strings.Repeat("x", most-len(whole))
	wantRefused(t, "200000 bytes", whole, most/6, api.ErrSyntax)
	wantRefused(t, "200001 bytes", whole+"x", 0, api.ErrSize)
	wantRefused(t, "200000 line feeds", strings.Repeat("\n", most), 0, api.ErrSyntax)
	wantRefused(t, "200001 line feeds", strings.Repeat("\n", most+1), 0, api.ErrSize)
	wantRefused(t, "many sources", strings.Repeat("a x 1\n", most/6), 0, api.ErrSize)
}

// J5: the errors of PrintSources, for each source in order.
func TestPrintSourcesErrors(t *testing.T) {
	base := func() []api.Source {
		return []api.Source{
			{Track: "a", Param: "x", Meaning: meaning(1, 0, 9, api.Line{To: 9, A: 1}), Long: 5},
			{Track: "b", Param: "y", Meaning: meaning(1, 0, 9, api.Line{To: 9, A: 1}), Long: 5},
		}
	}
	type l = []api.Source
	wantInOrder(t, "PrintSources", base, func(x l) []any { return results(desk.PrintSources(x)) }, []fault[l]{
		{"many", func(x *l) { *x = make(l, finding.MaxSources+1) }, api.ErrSize},
		{"a track", func(x *l) { (*x)[0].Track = "" }, api.ErrName},
		{"a parameter", func(x *l) { (*x)[0].Param = "y z" }, api.ErrName},
		{"two meanings", func(x *l) { (*x)[0].Meaning = make([]api.Calibration, 2) }, api.ErrForm},
		{"a meaning without lines", func(x *l) { (*x)[0].Meaning[0].Lines = nil }, api.ErrEmpty},
		{"lines out of order", func(x *l) { (*x)[0].Meaning[0].Lines = make([]api.Line, 2) }, api.ErrOrder},
		{"a negative Long", func(x *l) { (*x)[0].Long = -1 }, api.ErrRange},
		{"Long beyond", func(x *l) { (*x)[0].Long = series.MaxAt + 1 }, api.ErrRange},
		{"the second track", func(x *l) { (*x)[1].Track = "B" }, api.ErrName},
		{"many lines of the second meaning", func(x *l) { (*x)[1].Meaning[0].Lines = make([]api.Line, series.MaxLines+1) }, api.ErrSize},
		{"the second Long", func(x *l) { (*x)[1].Long = -1 }, api.ErrRange},
	})
	for _, name := range append(wrongNames(), "", "a b", "a\n") {
		wantWrong(t, strconv.Quote(name), results(desk.PrintSources(l{{Track: name, Param: "x"}})), api.ErrName)
		wantWrong(t, strconv.Quote(name), results(desk.PrintSources(l{{Track: "a", Param: name}})), api.ErrName)
	}
	for _, b := range beyond() {
		wantWrong(t, fmt.Sprint("Long ", b), results(desk.PrintSources(l{{Track: "a", Param: "x", Long: b}})), api.ErrRange)
	}
	wantPrinted(t, l{{Track: "a", Param: "x"}, {Track: "a", Param: "x"}}, "a x 0\na x 0\n") // CheckCase asks for that
}
