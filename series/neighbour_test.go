package series_test

import (
	"fmt"
	"math/big"
	"slices"
	"testing"

	"orangebox/api"
	"orangebox/series"
)

func spikesOf(t *testing.T, s api.Series, most int) []int {
	t.Helper()
	l, e := series.Spikes(s, most)
	wantErrno(t, "Spikes", e, api.OK)
	return l
}

// E5
func TestSpikes(t *testing.T) {
	const most = series.MaxN
	for name, c := range map[string]struct {
		series api.Series
		most   int
		want   []int
	}{
		"above":               {row(5, 16, 5), 10, []int{1}},
		"below":               {row(5, -6, 5), 10, []int{1}},
		"not above enough":    {row(5, 15, 5), 10, nil},
		"not below enough":    {row(5, -5, 5), 10, nil},
		"one side is enough":  {row(5, 16, 6), 10, nil},
		"the other side":      {row(6, 16, 5), 10, nil},
		"a step":              {row(0, 50, 100), 10, nil},
		"ends as far":         {row(0, 50, 10), 10, []int{1}},
		"ends too far":        {row(0, 50, 11), 10, nil},
		"ends too far below":  {row(11, -50, 0), 10, nil},
		"most is 0":           {row(5, 6, 5, 5, 4, 5), 0, []int{1, 4}},
		"most is 0, ends off": {row(5, 7, 6), 0, nil},
		"equal":               {row(5, 5, 5), 0, nil},
		"one and one more":    {row(0, 100, 0, 100, 0), 10, []int{1, 2, 3}},
		"no neighbours":       {row(0, 100), 10, nil},
		"one sample":          {row(7), 0, nil},
		"nothing":             {of(1), 0, nil},
		"at the ends":         {row(100, 0, 0, 100), 10, nil},
		"as great as can be":  {row(-most, most, -most), most, []int{1}},
		"as far as can be":    {row(0, most, 0), most, nil},
		"among solid ones":    {of(1, doubtful(0, 900), good(1, 5), lost(2), mended(3, 50), doubtful(4, -70), wrong(5), good(6, 4)), 10, []int{3}},
		"a doubtful one":      {of(1, good(1, 5), doubtful(2, 50), good(3, 4)), 10, nil},
	} {
		wantSame(t, name, spikesOf(t, c.series, c.most), c.want)
	}
	for _, b := range append(beyond(), -1, most+1) {
		wantWrong(t, fmt.Sprint("Spikes ", b), results(series.Spikes(row(1, 2, 3), b)), api.ErrRange)
	}
}

// E5: against the words of the document.
func TestSpikesMany(t *testing.T) {
	r := dice(10)
	found := 0
	for range 500 {
		s, most := some(r, 1, 20, 9), r.IntN(6)
		var numbers []int
		for i, x := range s.Samples {
			if isSolid(x) {
				numbers = append(numbers, i)
			}
		}
		var want []int
		for k := 1; k+1 < len(numbers); k++ {
			a, b, c := s.Samples[numbers[k-1]].N, s.Samples[numbers[k]].N, s.Samples[numbers[k+1]].N
			if (b-a > most && b-c > most || a-b > most && c-b > most) && a-c <= most && c-a <= most {
				want = append(want, numbers[k])
			}
		}
		found += len(want)
		wantSame(t, "Spikes", spikesOf(t, s, most), want)
	}
	if found < 100 {
		t.Errorf("only %d spikes", found)
	}
}

func doubted(t *testing.T, s api.Series, l ...int) api.Series {
	t.Helper()
	d, e := series.Doubt(s, l)
	wantErrno(t, "Doubt", e, api.OK)
	return d
}

// E5: only solid samples become doubtful; numbers stay.
func TestDoubt(t *testing.T) {
	s := of(3, good(0, 5), mended(1, 6), doubtful(2, 7), wrong(3), lost(4), good(5, 8))
	wantSeries(t, "none", doubted(t, s), s)
	wantSeries(t, "all", doubted(t, s, 0, 1, 2, 3, 4, 5), of(3, doubtful(0, 5), doubtful(1, 6), doubtful(2, 7), wrong(3), lost(4), doubtful(5, 8)))
	wantSeries(t, "some", doubted(t, s, 1, 4), of(3, good(0, 5), doubtful(1, 6), doubtful(2, 7), wrong(3), lost(4), good(5, 8)))
	wantSeries(t, "the last one", doubted(t, s, 5), of(3, good(0, 5), mended(1, 6), doubtful(2, 7), wrong(3), lost(4), doubtful(5, 8)))
	wantSeries(t, "none of none", doubted(t, of(1)), of(1))
	for name, c := range map[string]struct {
		list []int
		want api.Errno
	}{
		"negative":             {[]int{-1}, api.ErrRange},
		"beyond":               {[]int{6}, api.ErrRange},
		"equal":                {[]int{2, 2}, api.ErrOrder},
		"falling":              {[]int{0, 3, 1}, api.ErrOrder},
		"falling, then beyond": {[]int{3, 1, 6}, api.ErrRange},
		"beyond, then falling": {[]int{6, 1, 0}, api.ErrRange},
	} {
		wantWrong(t, name, results(series.Doubt(s, c.list)), c.want)
	}
	wantWrong(t, "one of none", results(series.Doubt(of(1), []int{0})), api.ErrRange)
	for _, b := range beyond() {
		wantWrong(t, fmt.Sprint("Doubt ", b), results(series.Doubt(s, []int{0, b})), api.ErrRange)
	}
}

func medianOf(t *testing.T, s api.Series, width int) api.Series {
	t.Helper()
	m, e := series.Median(s, width)
	wantErrno(t, "Median", e, api.OK)
	return m
}

// E5
func TestMedian(t *testing.T) {
	wantSeries(t, "width 1", medianOf(t, row(9, -3, 5), 1), row(9, -3, 5))
	wantSeries(t, "width 3", medianOf(t, row(9, -3, 5, 8, 8, 0), 3), row(-3, 5, 5, 8, 8, 0))
	wantSeries(t, "width 5", medianOf(t, row(9, -3, 5, 8, 8, 0), 5), row(5, 5, 8, 5, 5, 8))
	wantSeries(t, "wide", medianOf(t, row(4, 1, 3, 2), 101), row(2, 2, 2, 2))
	wantSeries(t, "one", medianOf(t, row(4), 3), row(4))
	wantSeries(t, "nothing", medianOf(t, of(7), 3), of(7))
	s := of(7, doubtful(0, 1), good(1, 9), wrong(2), mended(3, 4), lost(4), doubtful(5, 7), good(6, 6))
	wantSeries(t, "among solid ones", medianOf(t, s, 3), of(7, doubtful(0, 1), good(1, 4), wrong(2), mended(3, 6), lost(4), doubtful(5, 7), good(6, 4)))
	for _, width := range append(beyond(), -3, -1, 0, 2, 4, 100, 102, 103) {
		wantWrong(t, fmt.Sprint("width ", width), results(series.Median(s, width)), api.ErrArg)
	}
}

// E5: against lists of what is near.
func TestMedianMany(t *testing.T) {
	r := dice(11)
	for range 300 {
		s := some(r, 1, 150, 40)
		width := pick(r, 1, 3, 5, 7, 21, 99, 101)
		var numbers []int
		for i, x := range s.Samples {
			if isSolid(x) {
				numbers = append(numbers, i)
			}
		}
		want := of(1, slices.Clone(s.Samples)...)
		for k, i := range numbers {
			var near []int
			for j, o := range numbers {
				if max(j-k, k-j) <= (width-1)/2 {
					near = append(near, s.Samples[o].N)
				}
			}
			slices.Sort(near)
			want.Samples[i].N = near[len(near)/2]
			if len(near)%2 == 0 {
				want.Samples[i].N = near[len(near)/2-1]
			}
		}
		wantSeries(t, "Median", medianOf(t, s, width), want)
	}
}

func wantSteepest(t *testing.T, s api.Series, long int, want api.Ratio, number int) {
	t.Helper()
	r, n, e := series.Steepest(s, long)
	wantErrno(t, "Steepest", e, api.OK)
	wantSame(t, fmt.Sprint("Steepest for ", long, " of ", s), []any{r, n}, []any{want, number})
}

// E6
func TestSteepest(t *testing.T) {
	s := of(9, good(0, 0), doubtful(1, 500), mended(4, 6), good(10, -6), lost(11), wrong(12), good(16, 9), good(26, 10))
	wantSteepest(t, s, 100, api.Ratio{Num: 5, Den: 2}, 6)
	wantSteepest(t, s, 6, api.Ratio{Num: 5, Den: 2}, 6)
	wantSteepest(t, s, 5, api.Ratio{Num: 3, Den: 2}, 2)
	wantSteepest(t, of(1, good(5, 7), good(9, 7), good(10, 7)), 4, api.Ratio{Num: 0, Den: 1}, 1)
	wantSteepest(t, of(1, good(5, 7), good(9, 7), good(10, 7)), 3, api.Ratio{Num: 0, Den: 1}, 2)
	wantSteepest(t, of(1, good(0, 0), good(2, 4), good(5, -2), good(6, 0)), 9, api.Ratio{Num: 2, Den: 1}, 1)
	wantSteepest(t, of(1, good(0, 1), good(6, 5)), 6, api.Ratio{Num: 2, Den: 3}, 1)
	wantSteepest(t, row(series.MaxN, -series.MaxN), 1, api.Ratio{Num: 2 * series.MaxN, Den: 1}, 1)
	for name, l := range map[string]api.Series{"nothing": of(1), "one": row(1), "one solid": of(1, good(1, 1), doubtful(2, 2)), "too far apart": of(1, good(1, 1), lost(4), good(12, 4))} {
		wantWrong(t, name, results(series.Steepest(l, 10)), api.ErrEmpty)
	}
	wantWrong(t, "long 0", results(series.Steepest(row(1, 2), 0)), api.ErrEmpty)
	for _, b := range append(beyond(), -1, series.MaxAt+1) {
		wantWrong(t, fmt.Sprint("long ", b), results(series.Steepest(of(1), b)), api.ErrRange)
	}
}

// E6: against fractions of any size.
func TestSteepestMany(t *testing.T) {
	r := dice(12)
	for round := range 2000 {
		s, at := of(1), r.IntN(1000)
		for range 2 + r.IntN(5) {
			n := r.IntN(20)
			if round%2 == 0 {
				n = series.MaxN - r.IntN(3)*2
				if r.IntN(2) == 0 {
					n = -n
				}
			}
			s.Samples = append(s.Samples, good(at, n))
			at += 1 + r.IntN(6)
			if round%2 == 0 {
				at += 1 << 36
			}
		}
		var want *big.Rat
		number := 0
		for i := range s.Samples[1:] {
			a, b := s.Samples[i], s.Samples[i+1]
			rate := big.NewRat(int64(b.N-a.N), int64(b.At-a.At))
			rate.Abs(rate)
			if want == nil || rate.Cmp(want) > 0 {
				want, number = rate, i+1
			}
		}
		wantSteepest(t, s, series.MaxAt, ratioOf(want), number)
	}
}
