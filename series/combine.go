package series

import (
	"slices"

	"orangebox/api"
)

// Part returns the samples from one time on, before another one.
func Part(s api.Series, from, to int) (api.Series, api.Errno) {
	if e := Check(s); e != api.OK {
		return api.Series{}, e
	}
	if from < 0 || from > to || to > MaxAt+1 {
		return api.Series{}, api.ErrRange
	}
	l := s.Samples[ahead(s.Samples, from):ahead(s.Samples, to)]
	return api.Series{Den: s.Den, Samples: slices.Clone(l)}, api.OK
}

// Join returns the samples of two series.
func Join(a, b api.Series) (api.Series, api.Errno) {
	if e := checkBoth(a, b); e != api.OK {
		return api.Series{}, e
	}
	l := joined(a.Samples, b.Samples)
	if len(l) > MaxSamples {
		return api.Series{}, api.ErrSize
	}
	return api.Series{Den: a.Den, Samples: l}, api.OK
}

// Combine returns a series whose numbers are made of those of a and of what b holds.
func Combine(a, b api.Series, op, long int) (api.Series, api.Errno) {
	if e := checkBoth(a, b); e != api.OK {
		return api.Series{}, e
	}
	f, ok := operation(op)
	if !ok {
		return api.Series{}, api.ErrKind
	}
	if !isTime(long) {
		return api.Series{}, api.ErrRange
	}
	c := api.Series{Den: a.Den, Samples: make([]api.Sample, len(a.Samples))}
	for i, x := range a.Samples {
		c.Samples[i] = api.Sample{At: x.At, Mark: api.MarkLost}
		y, ok := Held(b.Samples, x.At, long)
		if !ok || !isSolid(x) {
			continue
		}
		n := f(x.N, y.N)
		if !isNumber(n) {
			return api.Series{}, api.ErrRange
		}
		c.Samples[i] = api.Sample{At: x.At, N: n, Mark: min(x.Mark, y.Mark)}
	}
	return c, api.OK
}

func joined(a, b []api.Sample) []api.Sample {
	var l []api.Sample
	for len(a) > 0 && len(b) > 0 {
		switch {
		case a[0].At < b[0].At:
			l, a = append(l, a[0]), a[1:]
		case a[0].At > b[0].At:
			l, b = append(l, b[0]), b[1:]
		default:
			l = append(l, agreed(a[0], b[0]))
			a, b = a[1:], b[1:]
		}
	}
	return append(append(l, a...), b...)
}

// agreed wants two samples at one time.
func agreed(a, b api.Sample) api.Sample {
	if a.Mark < b.Mark {
		return b
	}
	if a.Mark == b.Mark && a.N != b.N {
		return api.Sample{At: a.At, Mark: api.MarkWrong}
	}
	return a
}

// operation returns how two numbers are combined, if there is such an operation.
func operation(op int) (func(a, b int) int, bool) {
	switch op {
	case api.OpSum:
		return func(a, b int) int { return a + b }, true
	case api.OpLess:
		return func(a, b int) int { return a - b }, true
	case api.OpLeast:
		return func(a, b int) int { return min(a, b) }, true
	case api.OpMost:
		return func(a, b int) int { return max(a, b) }, true
	case api.OpApart:
		return func(a, b int) int { return size(a - b) }, true
	}
	return nil, false
}
