package series_test

import (
	"fmt"
	"math/rand/v2"
	"testing"

	"orangebox/api"
	"orangebox/series"
)

// lines is a calibration in which every number can be.
func lines(l ...api.Line) api.Calibration {
	return api.Calibration{Den: 10, Lines: l, Low: -series.MaxN, High: series.MaxN}
}

// within is a calibration in which numbers from low to high can be.
func within(low, high int, l ...api.Line) api.Calibration {
	return api.Calibration{Den: 10, Lines: l, Low: low, High: high}
}

// steps is so many lines for one value each.
func steps(count int) []api.Line {
	var l []api.Line
	for i := range count {
		l = append(l, api.Line{From: i, To: i, B: 2 * i})
	}
	return l
}

// E1: limits are permitted themselves.
func TestCheckCalibration(t *testing.T) {
	const v, a, n = 1 << 40, 1 << 20, series.MaxN
	den := lines(api.Line{})
	den.Den = series.MaxDen
	for name, c := range map[string]api.Calibration{
		"one value":               within(0, 0, api.Line{}),
		"the least Den":           {Den: 1, Lines: steps(1)},
		"the greatest Den":        den,
		"MaxLines":                lines(steps(series.MaxLines)...),
		"as many values":          lines(api.Line{From: -v, To: v, A: 1}),
		"as steep":                lines(api.Line{From: -1, To: 1, A: a}, api.Line{From: 2, To: 3, A: -a}),
		"as great an A as can be": lines(api.Line{From: v - 1, To: v, A: 1024, B: 0}),
		"numbers at their limits": lines(api.Line{From: -1, To: 0, A: 5, B: n}, api.Line{From: 1, To: 2, A: -7, B: -n + 14}),
		"an A that B makes up":    lines(api.Line{From: -v, To: -v, A: 2048, B: n}),
		"Low and High":            within(-n, n, api.Line{}),
		"all is High":             within(n, n, api.Line{}),
		"lines side by side":      lines(api.Line{From: 0, To: 4}, api.Line{From: 5, To: 5}, api.Line{From: 6, To: 9}),
	} {
		wantErrno(t, name, series.CheckCalibration(c), api.OK)
	}
	for name, c := range wrongCalibrations() {
		wantErrno(t, name, series.CheckCalibration(c.calibration), c.errno)
	}
}

// wrongCalibrations has calibrations with errors.
func wrongCalibrations() map[string]struct {
	calibration api.Calibration
	errno       api.Errno
} {
	type row = struct {
		calibration api.Calibration
		errno       api.Errno
	}
	const v, a, n = 1 << 40, 1 << 20, series.MaxN
	bad := api.Line{From: 1}
	l := map[string]row{
		"zero":                      {api.Calibration{}, api.ErrRange},
		"Den negative":              {api.Calibration{Den: -1, Lines: steps(1)}, api.ErrRange},
		"Den beyond":                {api.Calibration{Den: series.MaxDen + 1, Lines: steps(1)}, api.ErrRange},
		"Den, then lines":           {api.Calibration{Lines: steps(51)}, api.ErrRange},
		"no lines":                  {lines(), api.ErrEmpty},
		"no lines, then Low":        {within(1, 0), api.ErrEmpty},
		"too many lines":            {lines(steps(series.MaxLines + 1)...), api.ErrSize},
		"too many, then a line":     {lines(append(steps(50), bad)...), api.ErrSize},
		"From above To":             {lines(bad), api.ErrRange},
		"From below":                {lines(api.Line{From: -v - 1}), api.ErrRange},
		"From above":                {lines(api.Line{From: v + 1, To: v + 1}), api.ErrRange},
		"To above":                  {lines(api.Line{To: v + 1}), api.ErrRange},
		"To below":                  {lines(api.Line{From: -v - 2, To: -v - 1}), api.ErrRange},
		"A below":                   {lines(api.Line{A: -a - 1}), api.ErrRange},
		"A above":                   {lines(api.Line{A: a + 1}), api.ErrRange},
		"B below":                   {lines(api.Line{From: 1, To: 1, A: 1, B: -n - 1}), api.ErrRange},
		"B above":                   {lines(api.Line{From: 1, To: 1, A: -1, B: n + 1}), api.ErrRange},
		"values in two lines":       {lines(api.Line{To: 5}, api.Line{From: 5, To: 6}), api.ErrOrder},
		"lines that fall":           {lines(api.Line{From: 5, To: 6}, api.Line{From: 3, To: 4}), api.ErrOrder},
		"a line, then order":        {lines(api.Line{To: 5}, api.Line{From: 4, To: 3}), api.ErrRange},
		"order, then a line":        {lines(api.Line{To: 5}, api.Line{From: 5, To: 5}, bad), api.ErrOrder},
		"a number above at From":    {lines(api.Line{From: -1, To: 0, A: -1, B: n}), api.ErrRange},
		"a number above at To":      {lines(api.Line{From: 0, To: 1, A: 1, B: n}), api.ErrRange},
		"a number below at From":    {lines(api.Line{From: -1, To: 0, A: 1, B: -n}), api.ErrRange},
		"a number below at To":      {lines(api.Line{From: 0, To: 1, A: -1, B: -n}), api.ErrRange},
		"a number far above":        {lines(api.Line{From: v, To: v, A: a, B: n}), api.ErrRange},
		"a number of another line":  {lines(api.Line{}, api.Line{From: 1, To: 1, A: 1, B: n}), api.ErrRange},
		"order, then numbers":       {lines(api.Line{From: 1, To: 1, A: 1, B: n}, api.Line{From: 1, To: 1}), api.ErrOrder},
		"Low below":                 {within(-n-1, 0, api.Line{}), api.ErrRange},
		"Low above":                 {within(n+1, n+1, api.Line{}), api.ErrRange},
		"High above":                {within(0, n+1, api.Line{}), api.ErrRange},
		"Low above High":            {within(1, 0, api.Line{}), api.ErrRange},
		"order, then Low":           {within(1, 0, api.Line{}, api.Line{}), api.ErrOrder},
		"High below, and Low below": {within(-n-2, -n-1, api.Line{}), api.ErrRange},
	}
	for _, b := range beyond() {
		for i, c := range []api.Calibration{
			{Den: b, Lines: steps(1)}, lines(api.Line{From: b, To: b}), lines(api.Line{From: b}), lines(api.Line{To: b}), lines(api.Line{A: b}),
			lines(api.Line{B: b}), within(b, 0, api.Line{}), within(0, b, api.Line{}), within(b, b, api.Line{}),
		} {
			l[fmt.Sprint("beyond ", b, " at ", i)] = row{c, api.ErrRange}
		}
	}
	return l
}

// E1, E2: functions with calibrations first return CheckCalibration's error, Calibrate behind Check's.
func TestCalibrationFirst(t *testing.T) {
	for name, c := range wrongCalibrations() {
		wantWrong(t, "Apply by "+name, results(series.Apply(c.calibration, 0)), c.errno)
		wantWrong(t, "Nearest by "+name, results(series.Nearest(c.calibration, series.MaxN+1)), c.errno)
		wantWrong(t, "Grain by "+name, results(series.Grain(c.calibration)), c.errno)
		wantWrong(t, "Calibrate by "+name, results(series.Calibrate(of(2), c.calibration)), c.errno)
	}
}

func wantApply(t *testing.T, c api.Calibration, v, n int, ok bool) {
	t.Helper()
	got, is, e := series.Apply(c, v)
	wantErrno(t, "Apply", e, api.OK)
	wantSame(t, fmt.Sprint("Apply of ", v, " by ", c), []any{got, is}, []any{n, ok})
}

// E1
func TestApply(t *testing.T) {
	c := within(-30, 50, api.Line{From: -4, To: 5, A: 10}, api.Line{From: 8, To: 9, B: 7}, api.Line{From: 10, To: 12, A: -3, B: 33})
	for v, n := range map[int]int{-3: -30, -1: -10, 0: 0, 5: 50, 8: 7, 9: 7, 10: 3, 11: 0, 12: -3} {
		wantApply(t, c, v, n, true)
	}
	for _, v := range []int{-5, -4, 6, 7, 13} {
		wantApply(t, c, v, 0, false)
	}
	for _, v := range beyond() {
		wantApply(t, c, v, 0, false)
	}
	wantApply(t, within(0, 49, c.Lines...), 5, 0, false)
	wantApply(t, within(0, 49, c.Lines...), 0, 0, true)
	wantApply(t, within(0, 49, c.Lines...), -1, 0, false)
	steep := lines(api.Line{From: -1 << 30, To: 1 << 30, A: -1 << 20, B: 0})
	wantApply(t, steep, -1<<30, 1<<50, true)
	wantApply(t, steep, 1<<30, -1<<50, true)
}

func wantNearest(t *testing.T, c api.Calibration, n, v int) {
	t.Helper()
	got, e := series.Nearest(c, n)
	wantErrno(t, "Nearest", e, api.OK)
	wantSame(t, fmt.Sprint("Nearest to ", n, " by ", c), got, v)
}

// E1
func TestNearest(t *testing.T) {
	rising := lines(api.Line{From: -10, To: 10, A: 4, B: 1})
	for n, v := range map[int]int{1: 0, 2: 0, 3: 0, 4: 1, 5: 1, 0: 0, -1: -1, -2: -1, -3: -1, 1000: 10, -1000: -10, 41: 10, 43: 10, -39: -10} {
		wantNearest(t, rising, n, v)
	}
	falling := lines(api.Line{From: -10, To: 10, A: -4, B: 1})
	for n, v := range map[int]int{1: 0, 2: 0, 3: -1, 4: -1, 5: -1, 0: 0, -1: 0, -2: 1, 1000: -10, -1000: 10} {
		wantNearest(t, falling, n, v)
	}
	flat := lines(api.Line{From: 3, To: 9, B: 5}, api.Line{From: 10, To: 12, A: 1, B: -4})
	for n, v := range map[int]int{-100: 3, 5: 3, 6: 10, 7: 11, 100: 12} {
		wantNearest(t, flat, n, v)
	}
	between := lines(api.Line{From: 0, To: 0, B: 10}, api.Line{From: 1, To: 1, B: 0}, api.Line{From: 2, To: 2, B: 10})
	for n, v := range map[int]int{10: 0, 6: 0, 5: 0, 4: 1, 20: 0} {
		wantNearest(t, between, n, v)
	}
	some := within(-5, 6, api.Line{From: -10, To: 10, A: 3})
	for n, v := range map[int]int{100: 2, -100: -1, 5: 2, 0: 0} {
		wantNearest(t, some, n, v)
	}
	far := lines(api.Line{From: -1 << 30, To: 1 << 30, A: -1 << 20})
	wantNearest(t, far, series.MaxN, -1<<30)
	wantNearest(t, far, -series.MaxN, 1<<30)
	wantNearest(t, lines(api.Line{From: -1 << 40, To: 1 << 40, A: 1}), series.MaxN, 1<<40)
}

// E1
func TestNearestErrors(t *testing.T) {
	c := within(-5, 6, api.Line{From: 3, To: 10, A: 3}, api.Line{From: 20, To: 30, A: -1, B: 14}, api.Line{From: 40, To: 50, B: 7}, api.Line{From: 60, To: 60, B: -6})
	wantWrong(t, "no number", results(series.Nearest(c, 0)), api.ErrNone)
	wantWrong(t, "between two numbers", results(series.Nearest(within(4, 5, api.Line{From: -9, To: 9, A: 3}), 4)), api.ErrNone)
	wantWrong(t, "between two numbers that fall", results(series.Nearest(within(-5, -4, api.Line{From: -9, To: 9, A: -3}), 4)), api.ErrNone)
	for _, n := range append(beyond(), series.MaxN+1, -series.MaxN-1) {
		wantWrong(t, fmt.Sprint("Nearest to ", n), results(series.Nearest(c, n)), api.ErrRange)
	}
	one := within(0, 0, api.Line{From: 9, To: 9})
	wantNearest(t, one, series.MaxN, 9)
	wantNearest(t, one, -series.MaxN, 9)
}

// someCalibration has few values, and numbers that are close to 0.
func someCalibration(r *rand.Rand) api.Calibration {
	c := api.Calibration{Den: 1 + r.IntN(9), Low: -r.IntN(30), High: r.IntN(30)}
	if r.IntN(4) == 0 {
		c.Low, c.High = -1000, 1000
	}
	from := -10
	for range 1 + r.IntN(3) {
		from += r.IntN(5)
		line := api.Line{From: from, To: from + r.IntN(8), A: r.IntN(11) - 5, B: r.IntN(31) - 15}
		c.Lines = append(c.Lines, line)
		from = line.To + 1
	}
	return c
}

// E1: against a look at each value.
func TestNearestMany(t *testing.T) {
	r := dice(1)
	for range 2000 {
		c := someCalibration(r)
		n := r.IntN(81) - 40
		nearest, distance, can := 0, 1000000, false
		for v := -10; v < 60; v++ {
			m, ok, e := series.Apply(c, v)
			wantErrno(t, "Apply", e, api.OK)
			if ok && max(m-n, n-m) < distance {
				nearest, distance, can = v, max(m-n, n-m), true
			}
		}
		if can {
			wantNearest(t, c, n, nearest)
		} else {
			wantWrong(t, "Nearest", results(series.Nearest(c, n)), api.ErrNone)
		}
	}
}

// E1
func TestGrain(t *testing.T) {
	for name, c := range map[string]struct {
		calibration api.Calibration
		want        int
	}{
		"one line":           {lines(api.Line{From: 0, To: 1, A: 5}), 5},
		"a falling line":     {lines(api.Line{From: 0, To: 9, A: -6}, api.Line{From: 10, To: 11, A: 4}), 6},
		"the last line":      {lines(api.Line{From: 0, To: 9, A: -6}, api.Line{From: 10, To: 11, A: 7}), 7},
		"a flat line":        {lines(api.Line{From: 0, To: 9, B: 3}), 0},
		"one value":          {lines(api.Line{From: 7, To: 7, A: 5}), 0},
		"one value and some": {lines(api.Line{From: 7, To: 7, A: 5}, api.Line{From: 8, To: 9, A: -2}), 2},
		"numbers apart":      {lines(api.Line{From: 7, To: 8, A: 1}, api.Line{From: 9, To: 9, A: 1, B: 500}), 1},
		"what cannot be":     {within(100, 100, api.Line{From: 7, To: 8, A: 3}), 3},
		"the steepest":       {lines(api.Line{From: 0, To: 1, A: -1 << 20}), 1 << 20},
	} {
		g, e := series.Grain(c.calibration)
		wantErrno(t, name, e, api.OK)
		wantSame(t, name, g, c.want)
	}
}

func calibrated(t *testing.T, s api.Series, c api.Calibration) api.Series {
	t.Helper()
	l, e := series.Calibrate(s, c)
	wantErrno(t, "Calibrate", e, api.OK)
	return l
}

// E2: numbers become others, with the same marks; what has none stays.
func TestCalibrate(t *testing.T) {
	c := within(-9, 40, api.Line{From: 0, To: 10, A: 5, B: -10})
	s := of(1, lost(0), wrong(1), doubtful(2, 3), mended(3, 4), good(4, 10), good(5, 0), doubtful(6, 11), mended(7, -1), good(8, 0), good(series.MaxAt, 2))
	wantSeries(t, "Calibrate", calibrated(t, s, c), of(10, lost(0), wrong(1), doubtful(2, 5), mended(3, 10), good(4, 40), wrong(5), wrong(6), wrong(7), wrong(8), good(series.MaxAt, 0)))
	wantSeries(t, "Calibrate of nothing", calibrated(t, of(1), c), of(10))
	wantWrong(t, "a series that is in parts", results(series.Calibrate(of(2, good(0, 0)), c)), api.ErrForm)
	long := full(series.MaxSamples)
	wantSame(t, "Calibrate of MaxSamples", marksOf(t, calibrated(t, long, lines(api.Line{B: 3}))), [5]int{api.MarkGood: series.MaxSamples})
}
