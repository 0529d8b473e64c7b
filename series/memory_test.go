package series_test

import (
	"slices"
	"testing"

	"orangebox/api"
	"orangebox/series"
)

// roomy gives a list unused capacity, with something in it.
func roomy[T any](l []T, unused T) []T {
	longer := make([]T, 0, len(l)+3)
	longer = append(append(longer, l...), unused, unused, unused)
	return longer[:len(l)]
}

// whole is a list with its unused capacity.
func whole[T any](l []T) []T {
	return slices.Clone(l[:cap(l)])
}

// spoil changes all of a list.
func spoil[T any](l []T, with T) {
	l = l[:cap(l)]
	for i := range l {
		l[i] = with
	}
}

// E2 to E6: arguments stay as they are, with their unused capacity, whatever is done with results; and results with arguments.
func TestSeriesStay(t *testing.T) {
	odd := api.Sample{At: -7, N: -7, Mark: -7}
	a := of(1, roomy([]api.Sample{good(0, 5), mended(4, 90), good(9, 6), doubtful(12, 7), lost(15), wrong(17)}, odd)...)
	b := of(1, roomy([]api.Sample{good(0, 8), mended(5, 9), lost(8), good(20, 1)}, odd)...)
	numbers := roomy([]int{0, 1, 4}, -7)
	c := lines(roomy([]api.Line{{From: -9, To: 5, A: 3}, {From: 6, To: 99, A: -2}}, api.Line{From: -7})...)
	all := func() []any {
		return []any{whole(a.Samples), whole(b.Samples), whole(numbers), whole(c.Lines)}
	}
	before := all()
	calls := map[string]func() api.Series{
		"Calibrate":        func() api.Series { return calibrated(t, a, c) },
		"Part":             func() api.Series { return partOf(t, a, 0, series.MaxAt) },
		"Part in it":       func() api.Series { return partOf(t, a, 4, 15) },
		"Join":             func() api.Series { return joined(t, a, b) },
		"Join of nothing":  func() api.Series { return joined(t, a, of(1)) },
		"Join to nothing":  func() api.Series { return joined(t, of(1), a) },
		"Resample":         func() api.Series { return resampled(t, a, 0, 2, 9, 3) },
		"Doubt":            func() api.Series { return doubted(t, a, numbers...) },
		"Doubt of nothing": func() api.Series { return doubted(t, a) },
		"Median":           func() api.Series { return medianOf(t, a, 3) },
		"Median of one":    func() api.Series { return medianOf(t, a, 1) },
		"Combine":          func() api.Series { return combined(t, a, b, api.OpSum, 5) },
	}
	for name, call := range calls {
		s := call()
		kept := slices.Clone(s.Samples)
		spoil(s.Samples, api.Sample{At: -9})
		wantSame(t, "arguments of "+name, all(), before)
		wantSame(t, name+" again", call().Samples, kept)
	}
	bySeries(a)
	wantSame(t, "arguments of all functions", all(), before)
	spoil(spikesOf(t, a, 10), -9)
	wantSame(t, "spikes", spikesOf(t, a, 10), []int{1})
	_, _, _ = series.Mean(a, 0, 20, 5)
	_, _, _ = series.Steepest(a, 20)
	_, _, _ = series.Between(a, 3, 20)
	_, _ = series.Nearest(c, 5)
	_, _ = series.Grain(c)
	printed(t, a)
	wantSame(t, "arguments", all(), before)
}

// E2: neither parameters nor maps nor rests are changed or kept.
func TestRestsStay(t *testing.T) {
	m := someMap()
	m.Params = roomy(m.Params, api.Param{Name: "unused"})
	for i := range m.Params {
		p := &m.Params[i]
		p.Parts, p.Names = roomy(p.Parts, api.Part{Frame: -7}), roomy(p.Names, "unused")
	}
	r := dice(14)
	var l []api.Rest
	for number := 32; number < 64; number++ {
		l = append(l, someRest(t, r, number))
	}
	l = roomy(l, api.Rest{Number: -7})
	rests := whole(l)
	for _, p := range m.Params {
		parts, names := whole(p.Parts), whole(p.Names)
		s := fromRests(t, m, p.Name, l...)
		kept := slices.Clone(s.Samples)
		spoil(s.Samples, api.Sample{At: -9})
		wantSame(t, p.Name, fromRests(t, m, p.Name, l...).Samples, kept)
		times, e := series.Times(p, 32)
		wantErrno(t, "Times", e, api.OK)
		first := slices.Clone(times)
		spoil(times, -9)
		times, _ = series.Times(p, 32)
		wantSame(t, "Times", times, first)
		wantSame(t, "parts", whole(p.Parts), parts)
		wantSame(t, "names", whole(p.Names), names)
	}
	wantSame(t, "rests", whole(l), rests)
}
