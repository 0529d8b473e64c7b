package series_test

import (
	"fmt"
	"math/big"
	"testing"

	"orangebox/api"
	"orangebox/series"
)

// plainHold looks at all samples.
func plainHold(s api.Series, at, long int) (api.Sample, bool) {
	var last api.Sample
	some := false
	for _, x := range s.Samples {
		if x.At <= at {
			last, some = x, true
		}
	}
	if !some || !isSolid(last) || at-last.At > long {
		return api.Sample{}, false
	}
	return last, true
}

func wantHold(t *testing.T, s api.Series, at, long int, want api.Sample, ok bool) {
	t.Helper()
	x, is, e := series.Hold(s, at, long)
	wantErrno(t, "Hold", e, api.OK)
	wantSame(t, fmt.Sprint("Hold at ", at, " for ", long, " of ", s), []any{x, is}, []any{want, ok})
}

// E4
func TestHold(t *testing.T) {
	s := of(3, good(10, 5), mended(20, 6), doubtful(30, 7), good(31, 8), lost(40), good(50, 9), wrong(60), good(series.MaxAt-1, 4))
	for _, c := range []struct {
		at, long int
		want     api.Sample
	}{
		{10, 0, good(10, 5)}, {11, 1, good(10, 5)}, {19, 9, good(10, 5)}, {20, 0, mended(20, 6)}, {29, series.MaxAt, mended(20, 6)},
		{31, 5, good(31, 8)}, {39, 8, good(31, 8)}, {50, 0, good(50, 9)}, {59, 9, good(50, 9)}, {series.MaxAt, 1, good(series.MaxAt-1, 4)},
	} {
		wantHold(t, s, c.at, c.long, c.want, true)
	}
	for _, c := range [][2]int{{0, series.MaxAt}, {9, 100}, {11, 0}, {19, 8}, {30, 100}, {39, 7}, {40, 100}, {49, 100}, {60, 100}, {100, series.MaxAt}, {series.MaxAt, 0}} {
		wantHold(t, s, c[0], c[1], api.Sample{}, false)
	}
	wantHold(t, of(1), 5, 5, api.Sample{}, false)
	wantHold(t, row(7), series.MaxAt, series.MaxAt, good(0, 7), true)
	wantHold(t, row(7), series.MaxAt, series.MaxAt-1, api.Sample{}, false)
	r := dice(5)
	for range 300 {
		s := some(r, 1, 12, 5)
		for at := range 15 {
			long := r.IntN(6)
			x, ok := plainHold(s, at, long)
			wantHold(t, s, at, long, x, ok)
		}
	}
}

// E4: times that are wrong.
func TestHoldErrors(t *testing.T) {
	s := row(1, 2, 3)
	for _, b := range append(beyond(), -1, series.MaxAt+1) {
		wantWrong(t, fmt.Sprint("Hold at ", b), results(series.Hold(s, b, 5)), api.ErrRange)
		wantWrong(t, fmt.Sprint("Hold for ", b), results(series.Hold(s, 0, b)), api.ErrRange)
		wantWrong(t, fmt.Sprint("Between at ", b), results(series.Between(s, b, 5)), api.ErrRange)
		wantWrong(t, fmt.Sprint("Between for ", b), results(series.Between(s, 0, b)), api.ErrRange)
	}
}

func wantBetween(t *testing.T, s api.Series, at, long int, want api.Ratio, ok bool) {
	t.Helper()
	r, is, e := series.Between(s, at, long)
	wantErrno(t, "Between", e, api.OK)
	wantSame(t, fmt.Sprint("Between at ", at, " for ", long, " of ", s), []any{r, is}, []any{want, ok})
}

// E4
func TestBetween(t *testing.T) {
	s := of(3, lost(0), good(10, 5), doubtful(12, 100), wrong(13), mended(20, 0), good(26, 9), good(32, 9))
	for _, c := range []struct {
		at, long int
		want     api.Ratio
	}{
		{10, 0, api.Ratio{Num: 5, Den: 1}}, {20, 0, api.Ratio{Num: 0, Den: 1}}, {32, 0, api.Ratio{Num: 9, Den: 1}},
		{11, 10, api.Ratio{Num: 9, Den: 2}}, {12, 10, api.Ratio{Num: 4, Den: 1}}, {13, 10, api.Ratio{Num: 7, Den: 2}}, {19, 11, api.Ratio{Num: 1, Den: 2}},
		{21, 6, api.Ratio{Num: 3, Den: 2}}, {22, 6, api.Ratio{Num: 3, Den: 1}}, {30, 6, api.Ratio{Num: 9, Den: 1}},
	} {
		wantBetween(t, s, c.at, c.long, c.want, true)
	}
	for _, c := range [][2]int{{0, series.MaxAt}, {9, series.MaxAt}, {11, 9}, {12, 9}, {21, 5}, {33, series.MaxAt}, {series.MaxAt, series.MaxAt}} {
		wantBetween(t, s, c[0], c[1], api.Ratio{}, false)
	}
	wantBetween(t, of(1), 5, 5, api.Ratio{}, false)
	wantBetween(t, of(1, good(0, 0), doubtful(5, 9)), 3, 9, api.Ratio{}, false)
	wantBetween(t, of(1, good(0, -7), good(3, -8)), 1, 3, api.Ratio{Num: -22, Den: 3}, true)
}

// plainBetween looks for the samples on both sides, with numbers of any size.
func plainBetween(s api.Series, at, long int) (*big.Rat, bool) {
	var before, behind *api.Sample
	for i, x := range s.Samples {
		if isSolid(x) && x.At <= at {
			before = &s.Samples[i]
		}
		if isSolid(x) && x.At >= at && behind == nil {
			behind = &s.Samples[i]
		}
	}
	if before == nil || behind == nil || before.At != at && behind.At-before.At > long {
		return nil, false
	}
	n := big.NewRat(int64(before.N), 1)
	if before == behind {
		return n, true
	}
	rise := big.NewRat(int64(behind.N-before.N), int64(behind.At-before.At))
	return n.Add(n, rise.Mul(rise, big.NewRat(int64(at-before.At), 1))), true
}

// within62 reports whether both parts of a fraction are within a size of 2^62.
func within62(r *big.Rat) bool {
	limit := big.NewInt(1 << 62)
	return r.Num().CmpAbs(limit) <= 0 && r.Denom().Cmp(limit) <= 0
}

func ratioOf(r *big.Rat) api.Ratio {
	return api.Ratio{Num: int(r.Num().Int64()), Den: int(r.Denom().Int64())}
}

// E4: against fractions of any size.
func TestBetweenMany(t *testing.T) {
	r := dice(6)
	for range 2000 {
		s, at := some(r, 1, 12, 1+r.IntN(30)), r.IntN(14)
		long := r.IntN(14)
		if want, ok := plainBetween(s, at, long); ok {
			wantBetween(t, s, at, long, ratioOf(want), true)
		} else {
			wantBetween(t, s, at, long, api.Ratio{}, false)
		}
	}
	within := 0
	for range 2000 {
		apart, most := 1+r.IntN(1<<r.IntN(41)), 1<<r.IntN(51)
		s := of(1, good(5, r.IntN(2*most+1)-most), good(5+apart, r.IntN(2*most+1)-most))
		at := 5 + r.IntN(apart)
		want, ok := plainBetween(s, at, apart)
		if !ok || !within62(want) {
			_, _, e := series.Between(s, at, apart)
			wantErrno(t, "Between", e, api.OK)
			continue
		}
		within++
		wantBetween(t, s, at, apart, ratioOf(want), true)
	}
	if within < 500 {
		t.Errorf("only %d fractions are within 2^62", within)
	}
	far := of(1, good(0, -series.MaxN), good(series.MaxAt, series.MaxN))
	wantBetween(t, far, series.MaxAt/2, series.MaxAt, api.Ratio{Num: 0, Den: 1}, true)
	wantBetween(t, far, series.MaxAt/2+1, series.MaxAt, api.Ratio{Num: 2048, Den: 1}, true)
}

func resampled(t *testing.T, s api.Series, from, step, count, long int) api.Series {
	t.Helper()
	l, e := series.Resample(s, from, step, count, long)
	wantErrno(t, "Resample", e, api.OK)
	return l
}

// E4
func TestResample(t *testing.T) {
	s := of(9, good(10, 5), mended(20, 6), doubtful(30, 7), good(40, 8))
	wantSeries(t, "Resample", resampled(t, s, 5, 5, 9, 6), of(9, lost(5), good(10, 5), good(15, 5), mended(20, 6), mended(25, 6), lost(30), lost(35), good(40, 8), good(45, 8)))
	wantSeries(t, "held shorter", resampled(t, s, 5, 5, 9, 4), of(9, lost(5), good(10, 5), lost(15), mended(20, 6), lost(25), lost(30), lost(35), good(40, 8), lost(45)))
	wantSeries(t, "none", resampled(t, s, 5, 5, 0, 6), of(9))
	wantSeries(t, "none at the end", resampled(t, s, series.MaxAt, series.MaxAt, 0, 0), of(9))
	wantSeries(t, "of nothing", resampled(t, of(1), 0, series.MaxAt, 2, 0), of(1, lost(0), lost(series.MaxAt)))
	wantSeries(t, "the last time", resampled(t, row(3), series.MaxAt, series.MaxAt, 1, series.MaxAt), of(1, good(series.MaxAt, 3)))
	long := resampled(t, full(series.MaxSamples), 1, 2, series.MaxSamples, 0)
	wantSame(t, "MaxSamples", marksOf(t, long), [5]int{api.MarkGood: series.MaxSamples / 2, api.MarkLost: series.MaxSamples / 2})
	r := dice(7)
	for range 300 {
		s, from, step, count, long := some(r, 2, 30, 5), r.IntN(10), 1+r.IntN(5), r.IntN(20), r.IntN(6)
		want := of(2)
		for i := range count {
			x, _ := plainHold(s, from+i*step, long)
			x.At = from + i*step
			want.Samples = append(want.Samples, x)
		}
		wantSeries(t, "Resample", resampled(t, s, from, step, count, long), want)
	}
}

// E4: each number out of its range, and the last time.
func TestResampleErrors(t *testing.T) {
	s := row(1, 2, 3)
	const most = series.MaxAt
	for _, c := range [][4]int{
		{-1, 1, 1, 1}, {most + 1, 1, 1, 1}, {most + 1, 1, 0, 1}, {0, 0, 1, 1}, {0, -1, 1, 1}, {0, most + 1, 1, 1}, {0, 1, -1, 1}, {0, 1, series.MaxSamples + 1, 1},
		{0, 1, 1, -1}, {0, 1, 1, most + 1}, {most, 1, 2, 1}, {1, most, 2, 1}, {0, most, 3, 1}, {most - 8, 3, 4, 1}, {most, most, series.MaxSamples, most},
	} {
		wantWrong(t, fmt.Sprint("Resample ", c), results(series.Resample(s, c[0], c[1], c[2], c[3])), api.ErrRange)
	}
	wantSame(t, "up to the last time", len(resampled(t, s, most-9, 3, 4, 1).Samples), 4)
	for _, b := range beyond() {
		for i := range 4 {
			c := [4]int{1, 1, 1, 1}
			c[i] = b
			wantWrong(t, fmt.Sprint("Resample ", c), results(series.Resample(s, c[0], c[1], c[2], c[3])), api.ErrRange)
		}
	}
}

func wantMean(t *testing.T, s api.Series, from, to, long int, want api.Ratio, ticks int) {
	t.Helper()
	r, n, e := series.Mean(s, from, to, long)
	wantErrno(t, "Mean", e, api.OK)
	wantSame(t, fmt.Sprint("Mean from ", from, " to ", to, " for ", long, " of ", s), []any{r, n}, []any{want, ticks})
}

// E5: what is held, each tick.
func TestMean(t *testing.T) {
	s := of(3, good(10, 4), mended(14, -9), doubtful(16, 100), good(20, 2), good(30, 3))
	wantMean(t, s, 0, 40, 100, api.Ratio{Num: 24, Den: 13}, 26)
	wantMean(t, s, 12, 15, 100, api.Ratio{Num: -1, Den: 3}, 3)
	wantMean(t, s, 12, 15, 1, api.Ratio{Num: -9, Den: 1}, 1)
	wantMean(t, s, 10, 11, 0, api.Ratio{Num: 4, Den: 1}, 1)
	wantMean(t, s, 13, 16, 0, api.Ratio{Num: -9, Den: 1}, 1)
	wantMean(t, s, 0, 21, 2, api.Ratio{Num: -2, Den: 3}, 6)
	wantMean(t, of(1, good(0, 1), good(1, -1)), 0, 2, 5, api.Ratio{Num: 0, Den: 1}, 2)
	wantMean(t, row(5), series.MaxAt-1, series.MaxAt, series.MaxAt, api.Ratio{Num: 5, Den: 1}, 1)
	for _, c := range [][3]int{{0, 10, 100}, {10, 10, 100}, {16, 20, 100}, {12, 14, 1}, {32, 40, 1}, {0, 0, 0}, {series.MaxAt, series.MaxAt, 9}} {
		wantWrong(t, fmt.Sprint("Mean of nothing ", c), results(series.Mean(s, c[0], c[1], c[2])), api.ErrEmpty)
	}
	wantWrong(t, "Mean of no samples", results(series.Mean(of(1), 0, 1<<30, 9)), api.ErrEmpty)
	const most = series.MaxAt
	for _, c := range [][3]int{{-1, 5, 5}, {6, 5, 5}, {most, most + 1, 5}, {0, 1<<30 + 1, 5}, {0, most, 5}, {0, 5, -1}, {0, 5, most + 1}, {-1 << 62, 1<<62 + 1, 5}, {5, 5, -1}} {
		wantWrong(t, fmt.Sprint("Mean ", c), results(series.Mean(s, c[0], c[1], c[2])), api.ErrRange)
	}
	for _, b := range beyond() {
		wantWrong(t, fmt.Sprint("Mean from ", b), results(series.Mean(s, b, 5, 5)), api.ErrRange)
		wantWrong(t, fmt.Sprint("Mean to ", b), results(series.Mean(s, 0, b, 5)), api.ErrRange)
		wantWrong(t, fmt.Sprint("Mean for ", b), results(series.Mean(s, 0, 5, b)), api.ErrRange)
	}
}

// E5: against sums of each tick.
func TestMeanMany(t *testing.T) {
	r := dice(8)
	for range 1000 {
		s, from, ticks, long := some(r, 2, 30, 20), r.IntN(20), r.IntN(20), r.IntN(8)
		sum, count := int64(0), 0
		for at := from; at < from+ticks; at++ {
			if x, ok := plainHold(s, at, long); ok {
				sum += int64(x.N)
				count++
			}
		}
		if count == 0 {
			wantWrong(t, "Mean", results(series.Mean(s, from, from+ticks, long)), api.ErrEmpty)
		} else {
			wantMean(t, s, from, from+ticks, long, ratioOf(big.NewRat(sum, int64(count))), count)
		}
	}
}

// E5: against sums of any size, beyond the limit of a mean too.
func TestMeanOfGreatNumbers(t *testing.T) {
	r := dice(9)
	counts := map[bool]int{}
	for range 3000 {
		s := of(1)
		sum, at := new(big.Int), 0
		most := 1 << (20 + r.IntN(31))
		for range 1 + r.IntN(4) {
			n, ticks := r.IntN(2*most+1)-most, 1+r.IntN(1<<r.IntN(28))
			s.Samples = append(s.Samples, good(at, n))
			sum.Add(sum, new(big.Int).Mul(big.NewInt(int64(n)), big.NewInt(int64(ticks))))
			at += ticks
		}
		want := new(big.Rat).SetFrac(sum, big.NewInt(int64(at)))
		fits := within62(want)
		counts[fits]++
		if fits {
			wantMean(t, s, 0, at, series.MaxAt, ratioOf(want), at)
		} else {
			wantWrong(t, "Mean", results(series.Mean(s, 0, at, series.MaxAt)), api.ErrSize)
		}
	}
	if counts[true] < 300 || counts[false] < 300 {
		t.Errorf("means within the limit, and not: %v", counts)
	}
}

// E5: 2^62 is permitted itself, on both sides of 0.
func TestMeanAtItsLimit(t *testing.T) {
	const whole, ticks = 1 << 32, 1 << 30
	two := func(n, m int) api.Series { return of(1, good(0, n), good(ticks-1, m)) }
	for _, sign := range []int{1, -1} {
		// the sum is 2^62 but for what the last tick has more or less, and stays whole if that is odd
		wantMean(t, two(sign*whole, sign*(whole-1)), 0, ticks, series.MaxAt, api.Ratio{Num: sign * (1<<62 - 1), Den: ticks}, ticks)
		wantMean(t, two(sign*whole, sign*whole), 0, ticks, series.MaxAt, api.Ratio{Num: sign * whole, Den: 1}, ticks)
		wantWrong(t, "one more", results(series.Mean(two(sign*whole, sign*(whole+1)), 0, ticks, series.MaxAt)), api.ErrSize)
		wantMean(t, two(sign*whole, sign*(whole+2)), 0, ticks, series.MaxAt, api.Ratio{Num: sign * (1<<61 + 1), Den: ticks / 2}, ticks)
	}
	wantMean(t, row(-series.MaxN), 0, 1<<30, series.MaxAt, api.Ratio{Num: -series.MaxN, Den: 1}, 1<<30)
	limit := of(1, good(0, 1<<50), good(4096, 0)) // the sum is 2^62, and the ticks are odd
	wantMean(t, limit, 0, 4097, series.MaxAt, api.Ratio{Num: 1 << 62, Den: 4097}, 4097)
	limit.Samples[1].N = 1
	wantWrong(t, "2^62 + 1", results(series.Mean(limit, 0, 4097, series.MaxAt)), api.ErrSize)
	limit.Samples[0].N, limit.Samples[1].N = -1<<50, 0
	wantMean(t, limit, 0, 4097, series.MaxAt, api.Ratio{Num: -1 << 62, Den: 4097}, 4097)
	limit.Samples[1].N = -1
	wantWrong(t, "-2^62 - 1", results(series.Mean(limit, 0, 4097, series.MaxAt)), api.ErrSize)
}
