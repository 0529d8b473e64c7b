package series

import (
	"slices"

	"orangebox/api"
)

const maxTicks = 1 << 30 // of a mean

// stretch is a number that is held for some ticks.
type stretch struct{ n, ticks int }

// Hold returns the sample that is held at a time.
func Hold(s api.Series, at, long int) (api.Sample, bool, api.Errno) {
	if e := checkHold(s, at, long); e != api.OK {
		return api.Sample{}, false, e
	}
	x, ok := Held(s.Samples, at, long)
	return x, ok, api.OK
}

// Between returns the number at a time by a line from one solid sample to the next one.
func Between(s api.Series, at, long int) (api.Ratio, bool, api.Errno) {
	if e := checkHold(s, at, long); e != api.OK {
		return api.Ratio{}, false, e
	}
	l := solids(s.Samples)
	i := slices.IndexFunc(l, func(x solid) bool { return x.At >= at })
	if i >= 0 && l[i].At == at {
		return api.Ratio{Num: l[i].N, Den: 1}, true, api.OK
	}
	if i <= 0 || l[i].At-l[i-1].At > long {
		return api.Ratio{}, false, api.OK
	}
	return onLine(l[i-1].Sample, l[i].Sample, at), true, api.OK
}

// Resample returns what is held at times that are a step apart.
func Resample(s api.Series, from, step, count, long int) (api.Series, api.Errno) {
	if e := checkHold(s, from, long); e != api.OK {
		return api.Series{}, e
	}
	if step < 1 || step > MaxAt || count < 0 || count > MaxSamples {
		return api.Series{}, api.ErrRange
	}
	if count > 0 && from+(count-1)*step > MaxAt {
		return api.Series{}, api.ErrRange
	}
	r := api.Series{Den: s.Den, Samples: make([]api.Sample, count)}
	for i := range r.Samples {
		at := from + i*step
		x, _ := Held(s.Samples, at, long) // without one it is a lost sample but for its time
		r.Samples[i] = api.Sample{At: at, N: x.N, Mark: x.Mark}
	}
	return r, api.OK
}

// Mean returns the mean of what is held over ticks, and for how many of them something is.
func Mean(s api.Series, from, to, long int) (api.Ratio, int, api.Errno) {
	if e := Check(s); e != api.OK {
		return api.Ratio{}, 0, e
	}
	if from < 0 || from > to || to > MaxAt || to-from > maxTicks || !isTime(long) {
		return api.Ratio{}, 0, api.ErrRange
	}
	l := stretches(s.Samples, from, to, long)
	ticks := 0
	for _, h := range l {
		ticks += h.ticks
	}
	if ticks == 0 {
		return api.Ratio{}, 0, api.ErrEmpty
	}
	mean, ok := meanOf(l, ticks)
	if !ok {
		return api.Ratio{}, 0, api.ErrSize
	}
	return mean, ticks, api.OK
}

func checkHold(s api.Series, at, long int) api.Errno {
	if e := Check(s); e != api.OK {
		return e
	}
	if !isTime(at) || !isTime(long) {
		return api.ErrRange
	}
	return api.OK
}

// Held is Hold of samples without errors, at any time.
func Held(l []api.Sample, at, long int) (api.Sample, bool) {
	i := ahead(l, at+1) - 1
	if i < 0 || !isSolid(l[i]) || at-l[i].At > long {
		return api.Sample{}, false
	}
	return l[i], true
}

// onLine wants a time between those of two samples. Sums and products of ints wrap around, so that the numerator is right if it is within an int, whatever its parts are.
func onLine(a, b api.Sample, at int) api.Ratio {
	share := Lowest(at-a.At, b.At-a.At)
	rise := Lowest(b.N-a.N, share.Den)
	return api.Ratio{Num: a.N*rise.Den + rise.Num*share.Num, Den: rise.Den}
}

// stretches returns what is held in the ticks from one on, before another one.
func stretches(l []api.Sample, from, to, long int) []stretch {
	var held []stretch
	for i, x := range l {
		end := min(to, x.At+long+1)
		if i+1 < len(l) {
			end = min(end, l[i+1].At)
		}
		if begin := max(from, x.At); isSolid(x) && begin < end {
			held = append(held, stretch{x.N, end - begin})
		}
	}
	return held
}

// meanOf divides by all ticks ahead of adding up, for the sum itself could be beyond an int. It returns false if the mean is beyond its limit.
func meanOf(l []stretch, ticks int) (api.Ratio, bool) {
	whole, left := 0, 0 // the sum is ticks times whole, and left
	for _, h := range l {
		q := Floor(h.n, ticks)
		whole += q * h.ticks
		left += (h.n - q*ticks) * h.ticks
	}
	whole += left / ticks
	return Mixed(whole, Lowest(left%ticks, ticks))
}
