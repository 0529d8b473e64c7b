package series_test

import (
	"math"
	"math/rand/v2"
	"reflect"
	"slices"
	"testing"

	"orangebox/api"
	"orangebox/series"
)

// dice gives the same numbers in each run.
func dice(seed uint64) *rand.Rand {
	return rand.New(rand.NewPCG(seed, 5))
}

func pick[T any](r *rand.Rand, l ...T) T {
	return l[r.IntN(len(l))]
}

// beyond has numbers that are in no range of the document.
func beyond() []int {
	return []int{math.MinInt, math.MinInt + 1, -1<<62 - 1, -1<<50 - 1, 1<<50 + 1, 1<<62 + 1, math.MaxInt - 1, math.MaxInt}
}

func wantErrno(t *testing.T, name string, got, want api.Errno) {
	t.Helper()
	if got != want {
		t.Errorf("%s: error %d, want %d", name, got, want)
	}
}

// wantSame takes an empty list for nil.
func wantSame(t *testing.T, name string, got, want any) {
	t.Helper()
	g, w := reflect.ValueOf(got), reflect.ValueOf(want)
	if g.Kind() == reflect.Slice && w.Kind() == reflect.Slice && g.Len() == 0 && w.Len() == 0 {
		return
	}
	if !reflect.DeepEqual(got, want) {
		t.Errorf("%s: got %v, want %v", name, got, want)
	}
}

func wantSeries(t *testing.T, name string, got, want api.Series) {
	t.Helper()
	if got.Den != want.Den || !slices.Equal(got.Samples, want.Samples) {
		t.Errorf("%s: got %v, want %v", name, got, want)
	}
	if got.Den != 0 {
		wantErrno(t, name+": Check", series.Check(got), api.OK)
	}
}

// wantNothing wants zero values, or empty lists.
func wantNothing(t *testing.T, name string, results ...any) {
	t.Helper()
	for _, r := range results {
		v := reflect.ValueOf(r)
		if !v.IsZero() && (v.Kind() != reflect.Slice || v.Len() > 0) {
			t.Errorf("%s: got %v, want nothing", name, r)
		}
	}
}

// results makes a list of what a function returns.
func results(l ...any) []any {
	return l
}

// wantWrong wants an error behind results that are nothing.
func wantWrong(t *testing.T, name string, l []any, want api.Errno) {
	t.Helper()
	last := len(l) - 1
	wantErrno(t, name, l[last].(api.Errno), want)
	wantNothing(t, name, l[:last]...)
}

func of(den int, l ...api.Sample) api.Series {
	return api.Series{Den: den, Samples: l}
}

func good(at, n int) api.Sample     { return api.Sample{At: at, N: n, Mark: api.MarkGood} }
func mended(at, n int) api.Sample   { return api.Sample{At: at, N: n, Mark: api.MarkMended} }
func doubtful(at, n int) api.Sample { return api.Sample{At: at, N: n, Mark: api.MarkDoubtful} }
func wrong(at int) api.Sample       { return api.Sample{At: at, Mark: api.MarkWrong} }
func lost(at int) api.Sample        { return api.Sample{At: at} }

func isSolid(x api.Sample) bool {
	return x.Mark == api.MarkGood || x.Mark == api.MarkMended
}

// row is good samples with these numbers, one in each tick.
func row(l ...int) api.Series {
	s := api.Series{Den: 1}
	for i, n := range l {
		s.Samples = append(s.Samples, good(i, n))
	}
	return s
}

// full is a series of so many good samples.
func full(count int) api.Series {
	return row(make([]int, count)...)
}

// some is a series with samples of any mark at some times below a limit, and numbers that are this far from 0 at most.
func some(r *rand.Rand, den, limit, most int) api.Series {
	s := api.Series{Den: den}
	for at := range limit {
		if r.IntN(2) == 0 {
			continue
		}
		x := api.Sample{At: at, Mark: pick(r, 0, 1, 2, 3, 3, 4, 4, 4, 4)}
		if x.Mark >= api.MarkDoubtful {
			x.N = r.IntN(2*most+1) - most
		}
		s.Samples = append(s.Samples, x)
	}
	return s
}

// wrongSeries has series with errors.
func wrongSeries() map[string]struct {
	series api.Series
	errno  api.Errno
} {
	type row = struct {
		series api.Series
		errno  api.Errno
	}
	long := full(series.MaxSamples + 1)
	long.Samples[0].Mark = 9
	return map[string]row{
		"zero":                       {api.Series{}, api.ErrRange},
		"Den negative":               {of(-1), api.ErrRange},
		"Den beyond":                 {of(series.MaxDen + 1), api.ErrRange},
		"Den, then size":             {api.Series{Samples: long.Samples}, api.ErrRange},
		"too many":                   {full(series.MaxSamples + 1), api.ErrSize},
		"too many, then a sample":    {long, api.ErrSize},
		"a negative time":            {of(1, good(-1, 0)), api.ErrRange},
		"a time beyond":              {of(1, good(series.MaxAt+1, 0)), api.ErrRange},
		"a number below":             {of(1, good(5, -series.MaxN-1)), api.ErrRange},
		"a number above":             {of(1, good(5, series.MaxN+1)), api.ErrRange},
		"a mark below":               {of(1, api.Sample{Mark: -1}), api.ErrRange},
		"a mark above":               {of(1, api.Sample{Mark: 5}), api.ErrRange},
		"a number that is lost":      {of(1, api.Sample{N: 1, Mark: api.MarkLost}), api.ErrForm},
		"a number that is wrong":     {of(1, api.Sample{N: -1, Mark: api.MarkWrong}), api.ErrForm},
		"equal times":                {of(1, good(5, 1), good(5, 1)), api.ErrOrder},
		"falling times":              {of(1, good(5, 1), good(6, 1), lost(5)), api.ErrOrder},
		"range, then form":           {of(1, api.Sample{At: -1, N: 1}), api.ErrRange},
		"range of a mark, then form": {of(1, api.Sample{N: 1, Mark: -1}), api.ErrRange},
		"form, then order":           {of(1, good(5, 1), api.Sample{At: 5, N: 1}), api.ErrForm},
		"range, then order":          {of(1, good(5, 1), good(4, series.MaxN+1)), api.ErrRange},
		"order, then range":          {of(1, good(5, 1), good(5, 1), good(-1, 1)), api.ErrOrder},
		"form, then range":           {of(1, api.Sample{N: 1}, good(-1, 1)), api.ErrForm},
	}
}

func seriesBeyond() []api.Series {
	var l []api.Series
	for _, b := range beyond() {
		l = append(l, of(b, good(0, 1)), of(1, good(b, 1)), of(1, good(0, b)), of(1, api.Sample{Mark: b}))
	}
	return l
}
