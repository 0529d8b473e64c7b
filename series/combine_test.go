package series_test

import (
	"fmt"
	"maps"
	"slices"
	"testing"

	"orangebox/api"
	"orangebox/series"
)

func partOf(t *testing.T, s api.Series, from, to int) api.Series {
	t.Helper()
	p, e := series.Part(s, from, to)
	wantErrno(t, "Part", e, api.OK)
	return p
}

// E3: from a time on, and before another one.
func TestPart(t *testing.T) {
	s := of(7, good(0, 1), lost(5), wrong(6), doubtful(10, 3), mended(series.MaxAt, 4))
	for _, c := range []struct{ from, to, first, end int }{
		{0, series.MaxAt + 1, 0, 5},
		{0, series.MaxAt, 0, 4},
		{series.MaxAt, series.MaxAt + 1, 4, 5},
		{series.MaxAt + 1, series.MaxAt + 1, 5, 5},
		{0, 0, 0, 0},
		{5, 5, 1, 1},
		{5, 6, 1, 2},
		{5, 7, 1, 3},
		{4, 6, 1, 2},
		{6, 10, 2, 3},
		{7, 9, 3, 3},
		{1, 11, 1, 4},
	} {
		wantSeries(t, fmt.Sprint("Part ", c.from, " ", c.to), partOf(t, s, c.from, c.to), of(7, s.Samples[c.first:c.end]...))
	}
	wantSeries(t, "Part of nothing", partOf(t, of(3), 0, 9), of(3))
	for _, c := range [][2]int{{-1, 5}, {-2, -1}, {6, 5}, {0, -1}, {0, series.MaxAt + 2}, {series.MaxAt + 2, series.MaxAt + 2}} {
		wantWrong(t, fmt.Sprint("Part ", c), results(series.Part(s, c[0], c[1])), api.ErrRange)
	}
	for _, b := range beyond() {
		wantWrong(t, fmt.Sprint("Part from ", b), results(series.Part(s, b, 9)), api.ErrRange)
		wantWrong(t, fmt.Sprint("Part to ", b), results(series.Part(s, 0, b)), api.ErrRange)
		wantWrong(t, fmt.Sprint("Part at ", b), results(series.Part(s, b, b)), api.ErrRange)
	}
}

func joined(t *testing.T, a, b api.Series) api.Series {
	t.Helper()
	s, e := series.Join(a, b)
	wantErrno(t, "Join", e, api.OK)
	return s
}

// E3: at one time the greater mark counts, and of equal marks with two numbers neither.
func TestJoin(t *testing.T) {
	for name, c := range map[string]struct{ a, b, want api.Sample }{
		"equal":              {good(3, 5), good(3, 5), good(3, 5)},
		"good and mended":    {good(3, 5), mended(3, 6), good(3, 5)},
		"equal numbers":      {mended(3, 5), good(3, 5), good(3, 5)},
		"mended, doubtful":   {mended(3, 5), doubtful(3, 6), mended(3, 5)},
		"doubtful, wrong":    {doubtful(3, 0), wrong(3), doubtful(3, 0)},
		"wrong, lost":        {wrong(3), lost(3), wrong(3)},
		"lost":               {lost(3), lost(3), lost(3)},
		"wrong":              {wrong(3), wrong(3), wrong(3)},
		"good, other number": {good(3, 5), good(3, 6), wrong(3)},
		"mended, other":      {mended(3, -5), mended(3, 5), wrong(3)},
		"doubtful, other":    {doubtful(3, 0), doubtful(3, 5), wrong(3)},
		"doubtful, equal":    {doubtful(3, 5), doubtful(3, 5), doubtful(3, 5)},
	} {
		ahead, behind := good(2, 1), mended(4, 2)
		wantSeries(t, name, joined(t, of(9, c.a), of(9, c.b)), of(9, c.want))
		wantSeries(t, name+", other way", joined(t, of(9, c.b), of(9, c.a)), of(9, c.want))
		wantSeries(t, name+", in a", joined(t, of(9, ahead, c.a, behind), of(9, c.b)), of(9, ahead, c.want, behind))
		wantSeries(t, name+", in b", joined(t, of(9, ahead, c.a), of(9, c.b, behind)), of(9, ahead, c.want, behind))
	}
	wantSeries(t, "nothing", joined(t, of(2), of(2)), of(2))
	wantSeries(t, "a alone", joined(t, row(1, 2), of(1)), row(1, 2))
	wantSeries(t, "b alone", joined(t, of(1), row(1, 2)), row(1, 2))
}

// E3: against a map of times.
func TestJoinMany(t *testing.T) {
	r := dice(4)
	for range 500 {
		a, b := some(r, 3, 20, 2), some(r, 3, 20, 2)
		at := map[int]api.Sample{}
		for _, x := range a.Samples {
			at[x.At] = x
		}
		for _, y := range b.Samples {
			x, ok := at[y.At]
			switch {
			case !ok || y.Mark > x.Mark:
				at[y.At] = y
			case y.Mark == x.Mark && x.N != y.N:
				at[y.At] = wrong(y.At)
			}
		}
		want := of(3)
		for _, k := range slices.Sorted(maps.Keys(at)) {
			want.Samples = append(want.Samples, at[k])
		}
		wantSeries(t, "Join", joined(t, a, b), want)
	}
}

// E3
func TestJoinErrors(t *testing.T) {
	fine := row(1, 2)
	wantWrong(t, "two Dens", results(series.Join(fine, of(2))), api.ErrForm)
	wantWrong(t, "an error of a, then of b", results(series.Join(of(1, lost(-1)), of(1, api.Sample{N: 1}))), api.ErrRange)
	wantWrong(t, "an error of b, then two Dens", results(series.Join(fine, of(2, lost(-1)))), api.ErrRange)
	long := full(series.MaxSamples)
	last := of(1, good(series.MaxSamples, 3))
	wantWrong(t, "too many", results(series.Join(long, last)), api.ErrSize)
	wantWrong(t, "too many, other way", results(series.Join(last, long)), api.ErrSize)
	wantWrong(t, "too many, then Dens", results(series.Join(long, of(2, good(0, 1)))), api.ErrForm)
	wantSeries(t, "MaxSamples", joined(t, long, of(1, lost(7))), long)
	wantSeries(t, "MaxSamples of both", joined(t, long, long), long)
	long.Samples = long.Samples[:series.MaxSamples-1]
	wantSame(t, "MaxSamples of two", len(joined(t, long, last).Samples), series.MaxSamples)
}

func combined(t *testing.T, a, b api.Series, op, long int) api.Series {
	t.Helper()
	s, e := series.Combine(a, b, op, long)
	wantErrno(t, "Combine", e, api.OK)
	return s
}

// E6: each operation.
func TestCombine(t *testing.T) {
	for _, c := range []struct{ x, y, sum, less, least, most, apart int }{
		{5, 3, 8, 2, 3, 5, 2},
		{3, 5, 8, -2, 3, 5, 2},
		{-4, 7, 3, -11, -4, 7, 11},
		{0, 0, 0, 0, 0, 0, 0},
		{-4, -4, -8, 0, -4, -4, 0},
		{series.MaxN - 1, 1, series.MaxN, series.MaxN - 2, 1, series.MaxN - 1, series.MaxN - 2},
	} {
		for op, n := range map[int]int{api.OpSum: c.sum, api.OpLess: c.less, api.OpLeast: c.least, api.OpMost: c.most, api.OpApart: c.apart} {
			wantSeries(t, fmt.Sprint(c.x, " ", c.y, " by ", op), combined(t, of(5, good(8, c.x)), of(5, mended(6, c.y)), op, 9), of(5, mended(8, n)))
		}
	}
}

// E6: numbers beyond their limits, and what is not.
func TestCombineRange(t *testing.T) {
	const most = series.MaxN
	for _, c := range []struct{ op, x, y int }{{api.OpSum, most, 1}, {api.OpSum, -most, -1}, {api.OpLess, most, -1}, {api.OpLess, -most, 1}, {api.OpApart, -most, 1}, {api.OpApart, most, -most}} {
		wantWrong(t, fmt.Sprint(c), results(series.Combine(row(0, c.x), row(0, c.y), c.op, 9)), api.ErrRange)
		solid, doubt := of(1, good(0, 0), good(1, c.x)), of(1, good(0, 0), doubtful(1, c.y))
		wantSeries(t, fmt.Sprint(c, " in doubt"), combined(t, solid, doubt, c.op, 9), of(1, good(0, 0), lost(1)))
	}
	for _, c := range []struct{ op, x, y, n int }{{api.OpSum, most, 0, most}, {api.OpSum, -most + 1, -1, -most}, {api.OpLess, most, 0, most}, {api.OpLess, 0, most, -most}, {api.OpApart, 0, -most, most}, {api.OpMost, most, -most, most}, {api.OpLeast, most, -most, -most}} {
		wantSeries(t, fmt.Sprint(c), combined(t, row(c.x), row(c.y), c.op, 0), row(c.n))
	}
}

// E6: a sample of a with what b holds, and otherwise nothing.
func TestCombineHolds(t *testing.T) {
	a := of(1, good(0, 1), good(5, 1), mended(9, 1), doubtful(10, 1), good(11, 1), good(14, 1), good(15, 1), wrong(16), lost(17), good(18, 1), good(20, 1))
	b := of(1, good(5, 1), mended(10, 2), lost(15), doubtful(18, 4), good(19, 5), good(30, 6))
	want := of(1, lost(0), good(5, 2), mended(9, 2), lost(10), mended(11, 3), mended(14, 3), lost(15), lost(16), lost(17), lost(18), good(20, 6))
	wantSeries(t, "long enough", combined(t, a, b, api.OpSum, 4), want)
	want.Samples[2], want.Samples[5] = lost(9), lost(14)
	wantSeries(t, "not long enough", combined(t, a, b, api.OpSum, 3), want)
	wantSeries(t, "nothing of a", combined(t, of(1), b, api.OpSum, 4), of(1))
	wantSeries(t, "nothing of b", combined(t, row(1, 2), of(1), api.OpSum, 4), of(1, lost(0), lost(1)))
	wantSeries(t, "all the time", combined(t, of(1, good(series.MaxAt, 5)), row(6), api.OpSum, series.MaxAt), of(1, good(series.MaxAt, 11)))
	wantSeries(t, "a tick less", combined(t, of(1, good(series.MaxAt, 5)), row(6), api.OpSum, series.MaxAt-1), of(1, lost(series.MaxAt)))
}

// E6: what is wrong, in the order of the document.
func TestCombineErrors(t *testing.T) {
	a, b := row(series.MaxN), row(series.MaxN)
	wantWrong(t, "two Dens, then op", results(series.Combine(a, of(2), 0, -1)), api.ErrForm)
	for _, op := range append(beyond(), -1, 0, 6) {
		wantWrong(t, fmt.Sprint("op ", op), results(series.Combine(a, b, op, -1)), api.ErrKind)
	}
	for _, long := range append(beyond(), -1, series.MaxAt+1) {
		wantWrong(t, fmt.Sprint("long ", long), results(series.Combine(a, of(1), api.OpSum, long)), api.ErrRange)
	}
	wantWrong(t, "an error of a, then of b", results(series.Combine(of(1, lost(-1)), of(1, api.Sample{N: 1}), 1, 1)), api.ErrRange)
}
