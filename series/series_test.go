package series_test

import (
	"fmt"
	"testing"

	"orangebox/api"
	"orangebox/series"
)

// E2: limits are permitted themselves.
func TestCheck(t *testing.T) {
	for name, s := range map[string]api.Series{
		"no samples":         of(1),
		"the greatest Den":   of(series.MaxDen),
		"the first time":     of(1, good(0, 0)),
		"the last time":      of(1, good(series.MaxAt, 0)),
		"the least number":   of(1, doubtful(0, -series.MaxN)),
		"the greatest one":   of(1, mended(0, series.MaxN)),
		"all marks":          of(1, lost(0), wrong(1), doubtful(2, 1), mended(3, 1), good(4, 1)),
		"numbers that are 0": of(1, doubtful(2, 0), mended(3, 0), good(4, 0)),
		"MaxSamples":         full(series.MaxSamples),
	} {
		wantErrno(t, name, series.Check(s), api.OK)
	}
	for name, c := range wrongSeries() {
		wantErrno(t, name, series.Check(c.series), c.errno)
	}
	for _, s := range seriesBeyond() {
		wantErrno(t, fmt.Sprint(s), series.Check(s), api.ErrRange)
	}
}

// bySeries has what the functions with series return for one, with further arguments that are wrong.
func bySeries(s api.Series) map[string][]any {
	fine := of(1, good(1, 1))
	return map[string][]any{
		"Calibrate": results(series.Calibrate(s, api.Calibration{})),
		"Part":      results(series.Part(s, -1, -2)),
		"Join":      results(series.Join(s, api.Series{Den: 7, Samples: []api.Sample{lost(-1)}})),
		"Join of b": results(series.Join(fine, s)),
		"Marks":     results(series.Marks(s)),
		"Range":     results(series.Range(s)),
		"Hold":      results(series.Hold(s, -1, -1)),
		"Between":   results(series.Between(s, -1, -1)),
		"Resample":  results(series.Resample(s, -1, 0, -1, -1)),
		"Spikes":    results(series.Spikes(s, -1)),
		"Doubt":     results(series.Doubt(s, []int{-1})),
		"Median":    results(series.Median(s, 0)),
		"Mean":      results(series.Mean(s, -1, -2, -1)),
		"Combine":   results(series.Combine(s, api.Series{Den: 7, Samples: []api.Sample{lost(-1)}}, 0, -1)),
		"Combine b": results(series.Combine(fine, s, 0, -1)),
		"Steepest":  results(series.Steepest(s, -1)),
		"Print":     results(series.Print(s)),
	}
}

// E2: functions with series first return Check's error.
func TestSeriesFirst(t *testing.T) {
	for name, c := range wrongSeries() {
		for f, l := range bySeries(c.series) {
			wantWrong(t, f+" of "+name, l, c.errno)
		}
	}
	for _, s := range seriesBeyond() {
		for f, l := range bySeries(s) {
			wantWrong(t, fmt.Sprint(f, " of ", s), l, api.ErrRange)
		}
	}
}

func marksOf(t *testing.T, s api.Series) [5]int {
	t.Helper()
	m, e := series.Marks(s)
	wantErrno(t, "Marks", e, api.OK)
	return m
}

// E3
func TestMarks(t *testing.T) {
	wantSame(t, "Marks of nothing", marksOf(t, of(1)), [5]int{})
	s := of(3, lost(0), wrong(1), wrong(2), doubtful(3, 1), doubtful(4, 0), doubtful(5, 0))
	for at := range 4 {
		s.Samples = append(s.Samples, mended(10+at, at))
	}
	for at := range 5 {
		s.Samples = append(s.Samples, good(20+at, at))
	}
	wantSame(t, "Marks", marksOf(t, s), [5]int{1, 2, 3, 4, 5})
	wantSame(t, "Marks of MaxSamples", marksOf(t, full(series.MaxSamples)), [5]int{api.MarkGood: series.MaxSamples})
}

// E3: only solid samples count.
func TestRange(t *testing.T) {
	for name, c := range map[string]struct {
		series    api.Series
		low, high int
	}{
		"one":           {of(1, good(0, -5)), -5, -5},
		"one is mended": {of(1, mended(0, 7)), 7, 7},
		"many":          {row(3, -2, 9, 0, -7, 8), -7, 9},
		"above 0":       {row(3, 2, 9), 2, 9},
		"below 0":       {row(-3, -2, -9), -9, -2},
		"doubtful":      {of(1, doubtful(0, -100), good(1, 1), doubtful(2, 100), mended(3, 3), lost(4), wrong(5)), 1, 3},
		"as far apart":  {row(-series.MaxN, series.MaxN), -series.MaxN, series.MaxN},
	} {
		low, high, e := series.Range(c.series)
		wantErrno(t, name, e, api.OK)
		wantSame(t, name, []int{low, high}, []int{c.low, c.high})
	}
	wantWrong(t, "Range of nothing", results(series.Range(of(1))), api.ErrEmpty)
	wantWrong(t, "Range of nothing solid", results(series.Range(of(1, doubtful(0, 4), wrong(1), lost(2)))), api.ErrEmpty)
}
