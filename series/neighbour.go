package series

import (
	"math/bits"
	"slices"

	"orangebox/api"
)

// Spikes returns the numbers of the samples that stand out from their neighbours.
func Spikes(s api.Series, most int) ([]int, api.Errno) {
	if e := Check(s); e != api.OK {
		return nil, e
	}
	if most < 0 || most > MaxN {
		return nil, api.ErrRange
	}
	var spikes []int
	l := solids(s.Samples)
	for i := range l {
		if near, ok := neighbours(l[i:]); ok && isSpike(near, most) {
			spikes = append(spikes, near[1].number)
		}
	}
	return spikes, api.OK
}

// Doubt returns the series in which some samples are not solid.
func Doubt(s api.Series, l []int) (api.Series, api.Errno) {
	if e := Check(s); e != api.OK {
		return api.Series{}, e
	}
	for _, i := range l {
		if i < 0 || i >= len(s.Samples) {
			return api.Series{}, api.ErrRange
		}
	}
	d := api.Series{Den: s.Den, Samples: slices.Clone(s.Samples)}
	for k, i := range l {
		if k > 0 && i <= l[k-1] {
			return api.Series{}, api.ErrOrder
		}
		if isSolid(d.Samples[i]) {
			d.Samples[i].Mark = api.MarkDoubtful
		}
	}
	return d, api.OK
}

// Median returns the series in which each solid sample has the number in the middle of those near it.
func Median(s api.Series, width int) (api.Series, api.Errno) {
	if e := Check(s); e != api.OK {
		return api.Series{}, e
	}
	if width < 1 || width > MaxWidth || width%2 == 0 {
		return api.Series{}, api.ErrArg
	}
	l := solids(s.Samples)
	numbers := make([]int, len(l))
	for i, x := range l {
		numbers[i] = x.N
	}
	m := api.Series{Den: s.Den, Samples: slices.Clone(s.Samples)}
	for i, x := range l {
		near := sorted(numbers[max(0, i-width/2):min(len(l), i+width/2+1)])
		m.Samples[x.number].N = near[(len(near)-1)/2]
	}
	return m, api.OK
}

// Steepest returns the steepest change from one solid sample to the next one, and the number of the latter.
func Steepest(s api.Series, long int) (api.Ratio, int, api.Errno) {
	if e := checkHold(s, 0, long); e != api.OK {
		return api.Ratio{}, 0, e
	}
	var steepest api.Ratio
	number := -1
	l := solids(s.Samples)
	for i := 1; i < len(l); i++ {
		a, b := l[i-1], l[i]
		if b.At-a.At > long {
			continue
		}
		change := Lowest(size(b.N-a.N), b.At-a.At)
		if number < 0 || isSteeper(change, steepest) {
			steepest, number = change, b.number
		}
	}
	if number < 0 {
		return api.Ratio{}, 0, api.ErrEmpty
	}
	return steepest, number, api.OK
}

// neighbours takes the first three samples of a list as an array, without a copy, if there are so many.
func neighbours(l []solid) (*[3]solid, bool) {
	if len(l) < 3 {
		return nil, false
	}
	return (*[3]solid)(l), true
}

func isSpike(near *[3]solid, most int) bool {
	before, behind := near[1].N-near[0].N, near[1].N-near[2].N
	return size(before) > most && size(behind) > most && (before > 0) == (behind > 0) && size(before-behind) <= most
}

// isSteeper wants fractions that are not negative. Their products can be beyond an int.
func isSteeper(a, b api.Ratio) bool {
	high, low := bits.Mul64(uint64(a.Num), uint64(b.Den))
	otherHigh, otherLow := bits.Mul64(uint64(b.Num), uint64(a.Den))
	return high > otherHigh || high == otherHigh && low > otherLow
}
