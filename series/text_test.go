package series_test

import (
	"strconv"
	"strings"
	"testing"

	"orangebox/api"
	"orangebox/series"
)

func printed(t *testing.T, s api.Series) string {
	t.Helper()
	text, e := series.Print(s)
	wantErrno(t, "Print", e, api.OK)
	return text
}

func wantParsed(t *testing.T, name, text string, want api.Series) {
	t.Helper()
	s, line, e := series.Parse(text)
	wantErrno(t, name, e, api.OK)
	wantSame(t, name+": line", line, 0)
	wantSeries(t, name, s, want)
}

func wantRefused(t *testing.T, name, text string, line int, want api.Errno) {
	t.Helper()
	s, n, e := series.Parse(text)
	if n != line || e != want {
		t.Errorf("%s: line %d, error %d, want %d, %d", name, n, e, line, want)
	}
	wantNothing(t, name, s)
}

// E7
func TestPrint(t *testing.T) {
	for text, s := range map[string]api.Series{
		"series 1\n":       of(1),
		"series 1000000\n": of(series.MaxDen),
		"series 10\n0 good 10\n64 mended -20\n128 lost\n129 wrong\n130 doubtful 0\n": of(10, good(0, 10), mended(64, -20), lost(128), wrong(129), doubtful(130, 0)),
		"series 3\n0 lost\n1099511627776 good 1125899906842624\n":                    of(3, lost(0), good(series.MaxAt, series.MaxN)),
		"series 3\n5 wrong\n1099511627775 doubtful -1125899906842624\n":              of(3, wrong(5), doubtful(series.MaxAt-1, -series.MaxN)),
	} {
		wantSame(t, "Print", printed(t, s), text)
		wantParsed(t, text, text, s)
	}
}

// E7: Parse reads what Print writes.
func TestParseOfPrint(t *testing.T) {
	r := dice(13)
	for range 500 {
		s := some(r, 1+r.IntN(series.MaxDen), 30, 1+r.IntN(series.MaxN))
		wantParsed(t, "Parse of Print", printed(t, s), s)
	}
	s := of(series.MaxDen)
	for i := range series.MaxSamples {
		s.Samples = append(s.Samples, doubtful(series.MaxAt-series.MaxSamples+i, -series.MaxN))
	}
	wantParsed(t, "as long as can be", printed(t, s), s)
}

// E7: what is not as Print writes it, with the number of its line.
func TestParseSyntax(t *testing.T) {
	for _, line := range []string{
		"", " ", "5", "5 ", " 5 good 1", "5 good", "5 good ", "5 good 1 ", "5 good 1 2", "5  good 1", "5 good  1", "5\tgood 1", "5 good 1\r",
		"5 lost 0", "5 lost ", "5 wrong 0", "5 lost 1", "5 wrong -1", "5 bad 1", "5 Good 1", "5 goo 1", "5 goods 1", "5 4 1", "good 5 1", "5 1 good", "lost", "lost 5",
		"05 good 1", "5 good 01", "5 good 00", "00 good 1", "-0 good 1", "5 good -0", "5 good -01", "5 good --1", "5 good - 1", "5 good -", "5 good +1", "+5 good 1", "5 good 1.0", "5 good 0x1", "5 good 1_0", "5 good 1e3",
		"5 good \u0661", "5 good 1\x00", "5 good \xff", "5 good 1000000000000000000", "1000000000000000000 good 1", "5 good -1000000000000000000", "5 good 99999999999999999999999",
		"- good 1", "x lost", "-x lost", "series 1", "series", "# 5 good 1", "5 good 1 #",
	} {
		wantRefused(t, strconv.Quote(line)+" in line 1", "series 1\n"+line+"\n", 1, api.ErrSyntax)
		wantRefused(t, strconv.Quote(line)+" in line 3", "series 0\n9 good 1\n3 good 1\n"+line+"\n?\n", 3, api.ErrSyntax)
	}
	for _, line := range []string{
		"", " ", "series", "series ", " series 1", "series 1 ", "series  1", "series 1 2", "serie 1", "Series 1", "series1", "series 01", "series 00", "series -0", "series +1", "series -", "series x", "series 1\r", "series\t1",
		"series 1000000000000000000", "series 1 5 good 1", "5 good 1", "1", "\xff", "lost 1",
	} {
		wantRefused(t, strconv.Quote(line)+" in line 0", line+"\n5 good\n", 0, api.ErrSyntax)
	}
	wantRefused(t, "no lines", "", 0, api.ErrSyntax)
	wantRefused(t, "the end of line 0", "series 1", 0, api.ErrSyntax)
	wantRefused(t, "the end of line 1", "series 1\n5 good 1", 1, api.ErrSyntax)
	wantRefused(t, "the end of line 2", "series 0\n5 good 1\n6", 2, api.ErrSyntax)
	wantRefused(t, "the end of line 2, behind another one", "series 0\n5 good 1 \n6 good 1", 1, api.ErrSyntax)
}

// E7: Check's errors come behind all lines, with the line of the sample.
func TestParseCheck(t *testing.T) {
	for name, c := range map[string]struct {
		text string
		line int
		want api.Errno
	}{
		"Den 0":              {"series 0\n5 good 1\n", 0, api.ErrRange},
		"Den negative":       {"series -1\n", 0, api.ErrRange},
		"Den beyond":         {"series 1000001\n", 0, api.ErrRange},
		"Den of 18 digits":   {"series 999999999999999999\n-5 good 1\n", 0, api.ErrRange},
		"a negative time":    {"series 1\n1 good 1\n-5 good 1\n", 2, api.ErrRange},
		"a negative lost":    {"series 1\n-5 lost\n", 1, api.ErrRange},
		"a time beyond":      {"series 1\n1099511627777 good 1\n", 1, api.ErrRange},
		"time of 18 digits":  {"series 1\n0 lost\n1 lost\n999999999999999999 good 1\n", 3, api.ErrRange},
		"a number above":     {"series 1\n5 good 1125899906842625\n", 1, api.ErrRange},
		"a number below":     {"series 1\n0 lost\n5 good -1125899906842625\n", 2, api.ErrRange},
		"18 digits":          {"series 1\n5 good -999999999999999999\n", 1, api.ErrRange},
		"equal times":        {"series 1\n5 good 1\n5 lost\n", 2, api.ErrOrder},
		"falling times":      {"series 1\n5 good 1\n6 wrong\n4 lost\n-1 lost\n", 3, api.ErrOrder},
		"range, then syntax": {"series 1\n-5 good 1\n5 good\n", 2, api.ErrSyntax},
	} {
		wantRefused(t, name, c.text, c.line, c.want)
	}
	var most strings.Builder
	most.WriteString("series 2\n")
	for i := range series.MaxSamples {
		most.WriteString(strconv.Itoa(i) + " lost\n")
	}
	s, _, e := series.Parse(most.String())
	wantErrno(t, "MaxSamples", e, api.OK)
	wantSame(t, "MaxSamples", marksOf(t, s), [5]int{api.MarkLost: series.MaxSamples})
	wantRefused(t, "more than MaxSamples", most.String()+"-5 lost\n", 0, api.ErrSize)
	wantRefused(t, "more than MaxSamples, then syntax", most.String()+"5 lost\n?\n", series.MaxSamples+2, api.ErrSyntax)
}

// E7: 1000000 bytes are permitted, more are not, whatever they are.
func TestParseSize(t *testing.T) {
	const most = 1000000
	text := "series 1\n" + strings.Repeat("5 lost\n", (most-9)/7)
	text += strings.Repeat("x", most-len(text))
	wantRefused(t, "of 1000000 bytes", text, 1+(most-9)/7, api.ErrSyntax)
	wantRefused(t, "of 1000001 bytes", text+"x", 0, api.ErrSize)
	wantRefused(t, "of 1000001 line feeds", strings.Repeat("\n", most+1), 0, api.ErrSize)
	wantRefused(t, "of 1000000 line feeds", strings.Repeat("\n", most), 0, api.ErrSyntax)
	wantRefused(t, "of 1000000 blanks", "series"+strings.Repeat(" ", most-6), 0, api.ErrSyntax)
	whole := "series 1\n" + strings.Repeat("0 lost\n", (most-9)/7-1) + "0 good -99"
	whole += strings.Repeat("9", most-1-len(whole)) + "\n"
	wantSame(t, "bytes", len(whole), most)
	wantRefused(t, "too many samples in 1000000 bytes", whole, 0, api.ErrSize)
}
