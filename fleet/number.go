package fleet

import (
	"slices"

	"orangebox/api"
	"orangebox/event"
	"orangebox/series"
)

const maxShares = 1000000 // into which a quantile divides

// peak is the greatest number of a track in the flight with a number, in parts of den.
type peak struct{ flight, n, den int }

// Quantile returns the peak of a rank that is a share of how many there are.
func Quantile(l []api.Flight, m api.Mask, track string, num, den int) (int, api.Errno) {
	lists, e := peaksOf(m, track, l)
	if e != api.OK {
		return 0, e
	}
	if num < 0 || num > den || den < 1 || den > maxShares {
		return 0, api.ErrRange
	}
	return quantile(numbers(lists[0]), num, den), api.OK
}

// Mean returns the mean of the peaks. MaxFlights of them have a sum that is far within an int.
func Mean(l []api.Flight, m api.Mask, track string) (api.Ratio, api.Errno) {
	lists, e := peaksOf(m, track, l)
	if e != api.OK {
		return api.Ratio{}, e
	}
	return series.Lowest(sum(lists[0]), len(lists[0])), api.OK
}

// Apart returns the mean of the peaks of a less that of b.
func Apart(a, b []api.Flight, m api.Mask, track string) (api.Ratio, api.Errno) {
	lists, e := peaksOf(m, track, a, b)
	if e != api.OK {
		return api.Ratio{}, e
	}
	mean, ok := less(sum(lists[0]), len(lists[0]), sum(lists[1]), len(lists[1]))
	if !ok {
		return api.Ratio{}, api.ErrSize
	}
	return mean, api.OK
}

// Odd returns the numbers of the flights whose peaks are far from the middle one.
func Odd(l []api.Flight, m api.Mask, track string, factor int) ([]int, api.Errno) {
	lists, e := peaksOf(m, track, l)
	if e != api.OK {
		return nil, e
	}
	if factor < 1 || factor > MaxFactor {
		return nil, api.ErrRange
	}
	middle := quantile(numbers(lists[0]), 1, 2)
	var distances []int
	for _, p := range lists[0] {
		distances = append(distances, distance(p.n, middle))
	}
	most := factor * quantile(distances, 1, 2)
	var odd []int
	for i, p := range lists[0] {
		if distances[i] > most {
			odd = append(odd, p.flight)
		}
	}
	return odd, api.OK
}

// peaksOf returns the peaks of each of some lists of flights, or what is wrong with them.
func peaksOf(m api.Mask, track string, lists ...[]api.Flight) ([][]peak, api.Errno) {
	for _, l := range lists {
		if e := checkFlights(l); e != api.OK {
			return nil, e
		}
	}
	if e := CheckMask(m); e != api.OK {
		return nil, e
	}
	if !event.IsName(track) {
		return nil, api.ErrName
	}
	var found [][]peak
	for _, l := range lists {
		peaks := peaksIn(l, m, track)
		if len(peaks) < m.Least {
			return nil, api.ErrNone
		}
		found = append(found, peaks)
	}
	den := found[0][0].den
	for _, peaks := range found {
		if !allOf(peaks, func(p peak) bool { return p.den == den }) {
			return nil, api.ErrForm
		}
	}
	return found, api.OK
}

func peaksIn(l []api.Flight, m api.Mask, track string) []peak {
	var peaks []peak
	for i, f := range l {
		if p, ok := peakOf(masked(f, m), track); ok {
			p.flight = i
			peaks = append(peaks, p)
		}
	}
	return peaks
}

// quantile wants numbers, and a share of them from 0 to 1.
func quantile(l []int, num, den int) int {
	l = slices.Sorted(slices.Values(l))
	rank := (len(l)*num + den - 1) / den
	return l[max(rank, 1)-1]
}

// less returns what the quotient of two numbers is less that of two others, or false if it is beyond its limit. It divides first, for products of all of them could be beyond an int.
func less(a, denA, b, denB int) (api.Ratio, bool) {
	wholeA, wholeB := series.Floor(a, denA), series.Floor(b, denB)
	leftA, leftB := a-wholeA*denA, b-wholeB*denB
	return series.Mixed(wholeA-wholeB, series.Lowest(leftA*denB-leftB*denA, denA*denB))
}

func numbers(l []peak) []int {
	var n []int
	for _, p := range l {
		n = append(n, p.n)
	}
	return n
}

func sum(l []peak) int {
	s := 0
	for _, p := range l {
		s += p.n
	}
	return s
}

func distance(a, b int) int {
	return max(a-b, b-a)
}

// allOf reports whether something holds for each element of a list.
func allOf[T any](l []T, holds func(T) bool) bool {
	return !slices.ContainsFunc(l, func(x T) bool { return !holds(x) })
}
