package fleet_test

import (
	"fmt"
	"math/big"
	"testing"

	"orangebox/api"
	"orangebox/fleet"
)

// peaked has flights with these peaks.
func peaked(l ...int) []api.Flight {
	return many(len(l), func(i int) api.Flight { return flown(i, l[i]) })
}

func wantRatio(t *testing.T, name string, got api.Ratio, e api.Errno, want *big.Rat) {
	t.Helper()
	r, wanted := ratio(want)
	wantErrno(t, name, e, wanted)
	wantSame(t, name, got, r)
}

func wantQuantile(t *testing.T, l []api.Flight, num, den, want int) {
	t.Helper()
	n, e := fleet.Quantile(l, open(), "a", num, den)
	wantErrno(t, "Quantile", e, api.OK)
	wantSame(t, fmt.Sprint("Quantile ", num, "/", den), n, want)
}

// I4
func TestQuantile(t *testing.T) {
	l := peaked(50, 10, 40, 20, 30)
	for _, c := range [][3]int{
		{0, 1, 10}, {1, 1, 50}, {1, 2, 30}, {1, 5, 10}, {2, 5, 20}, {200001, 1000000, 20}, {199999, 1000000, 10}, {200000, 1000000, 10},
		{1, 1000000, 10}, {999999, 1000000, 50}, {1000000, 1000000, 50}, {4, 5, 40}, {800001, 1000000, 50}, {0, 1000000, 10}, {3, 4, 40},
	} {
		wantQuantile(t, l, c[0], c[1], c[2])
	}
	wantQuantile(t, peaked(7), 0, 5, 7)
	wantQuantile(t, peaked(7), 5, 5, 7)
	wantQuantile(t, peaked(4, 4, -9, 4), 1, 4, -9)
	wantQuantile(t, peaked(4, 4, -9, 4), 1, 3, 4)
	wantQuantile(t, many(fleet.MaxFlights, func(i int) api.Flight { return flown(0, 299-i) }), 1, 2, 149)
	wantQuantile(t, many(fleet.MaxFlights, func(i int) api.Flight { return flown(0, 299-i) }), 999999, 1000000, 299)
}

// I4: flights without a peak are left out, whatever the Den of the track is there.
func TestPeaksOfSomeFlights(t *testing.T) {
	l := []api.Flight{flown(0, 8), flight("", "r", 0), flight("", "r", 0, track("a", 5, 0, doubtful(0, 90))), flown(0, 2), flight("", "r", 0, track("a", 5, 0, good(64, 90)))}
	m := least(2)
	mean, e := fleet.Mean(l, m, "a")
	wantRatio(t, "Mean", mean, e, big.NewRat(5, 1))
	wantQuantile(t, l, 1, 1, 8)
	odd, e := fleet.Odd(append(l, flown(0, 3), flown(0, 90)), m, "a", 5)
	wantErrno(t, "Odd", e, api.OK)
	wantSame(t, "Odd", odd, []int{6})
	apart, e := fleet.Apart(l, l[:4], m, "a")
	wantRatio(t, "Apart", apart, e, big.NewRat(0, 1))
	m.Least = 3
	wantWrong(t, "Mean of few", results(fleet.Mean(l, m, "a")), api.ErrNone)
	m = open()
	m.Hide = []string{"a"}
	wantWrong(t, "Mean of a hidden track", results(fleet.Mean(l, m, "a")), api.ErrNone)
	m.Hide, m.Grains = nil, []api.Grain{grain("a", 5)}
	mean, e = fleet.Mean(l, m, "a")
	wantRatio(t, "Mean in steps", mean, e, big.NewRat(5, 2))
}

// I4
func TestMean(t *testing.T) {
	for _, c := range []struct {
		l    []int
		want *big.Rat
	}{
		{[]int{5}, big.NewRat(5, 1)}, {[]int{1, 2}, big.NewRat(3, 2)}, {[]int{-1, -2, -1}, big.NewRat(-4, 3)}, {[]int{5, -5}, big.NewRat(0, 1)},
		{[]int{2, 4, 6, 8}, big.NewRat(5, 1)}, {[]int{most, most, most - 1}, big.NewRat(3*most-1, 3)}, {[]int{-most, -most, 1 - most}, big.NewRat(1-3*most, 3)},
	} {
		mean, e := fleet.Mean(peaked(c.l...), open(), "a")
		wantRatio(t, fmt.Sprint("Mean of ", c.l), mean, e, c.want)
	}
	for _, sign := range []int{1, -1} {
		l := many(fleet.MaxFlights, func(i int) int { return sign * (most - i/299) })
		mean, e := fleet.Mean(peaked(l...), open(), "a")
		wantRatio(t, "Mean of many", mean, e, plainMean(l))
	}
}

// I4
func TestApart(t *testing.T) {
	for _, c := range []struct {
		a, b []int
		want *big.Rat
	}{
		{[]int{5}, []int{3}, big.NewRat(2, 1)}, {[]int{3}, []int{5}, big.NewRat(-2, 1)}, {[]int{1, 2}, []int{1, 1, 2}, big.NewRat(1, 6)},
		{[]int{1, 1, 2}, []int{1, 2}, big.NewRat(-1, 6)}, {[]int{most}, []int{-most}, big.NewRat(2*most, 1)}, {[]int{-1, -2}, []int{-3}, big.NewRat(3, 2)},
		{[]int{4, 5}, []int{7, 8}, big.NewRat(-3, 1)},
	} {
		apart, e := fleet.Apart(peaked(c.a...), peaked(c.b...), open(), "a")
		wantRatio(t, fmt.Sprint("Apart of ", c.a, " and ", c.b), apart, e, c.want)
	}
}

// summing is so many numbers with a sum.
func summing(count, sum int) []int {
	least := plainFloor(sum, count) / count
	return many(count, func(i int) int { return least + max(0, min(1, sum-least*count-i)) })
}

// apart has two lists of numbers whose means differ by num / 2051, which is 7 times 293.
func apart(t *testing.T, num *big.Int) (a, b []int) {
	t.Helper()
	for sumB := -7 * most; sumB < 7-7*most; sumB++ {
		sumA := new(big.Int).Add(num, new(big.Int).Mul(big.NewInt(int64(sumB)), big.NewInt(293)))
		if new(big.Int).Mod(sumA, big.NewInt(7)).Sign() == 0 {
			return summing(293, int(sumA.Div(sumA, big.NewInt(7)).Int64())), summing(7, sumB)
		}
	}
	t.Fatal("no such lists")
	return nil, nil
}

// I4: numerators at their limit, of either sign.
func TestApartAtTheLimit(t *testing.T) {
	limit := new(big.Int).Lsh(big.NewInt(1), 62)
	for _, c := range []struct {
		more int64
		want api.Errno
	}{{-4, api.OK}, {-2, api.OK}, {-1, api.OK}, {0, api.OK}, {1, api.ErrSize}, {2, api.ErrSize}, {3, api.OK}, {4, api.ErrSize}, {1 << 51, api.ErrSize}} {
		num := new(big.Int).Add(limit, big.NewInt(c.more))
		a, b := apart(t, num)
		want := new(big.Rat).SetFrac(num, big.NewInt(2051))
		wantSame(t, "the means", new(big.Rat).Sub(plainMean(a), plainMean(b)).Cmp(want), 0)
		got, e := fleet.Apart(peaked(a...), peaked(b...), open(), "a")
		wantErrno(t, fmt.Sprint("Apart at ", c.more), e, c.want)
		wantRatio(t, fmt.Sprint("Apart at ", c.more), got, e, want)
		got, e = fleet.Apart(peaked(b...), peaked(a...), open(), "a")
		wantRatio(t, fmt.Sprint("Apart the other way at ", c.more), got, e, want.Neg(want))
	}
}

// I4: products of sums and numbers of flights can be far beyond an int, and the mean is not.
func TestApartOfMany(t *testing.T) {
	for _, c := range []struct{ countA, sumA, countB, sumB int }{
		{300, 300 * most, 300, -300 * most}, {300, 300 * most, 299, -299 * most}, {300, 300*most - 150, 300, 150 - 300*most},
		{256, 256*most - 1, 128, 1 - 128*most}, {300, 300 * most, 300, 299 * most}, {300, 300*most - 1, 299, 299*most - 1}, {299, 2 - 299*most, 300, 1 - 300*most},
	} {
		a, b := summing(c.countA, c.sumA), summing(c.countB, c.sumB)
		want := new(big.Rat).Sub(plainMean(a), plainMean(b))
		got, e := fleet.Apart(peaked(a...), peaked(b...), open(), "a")
		wantRatio(t, fmt.Sprint("Apart of ", c), got, e, want)
		got, e = fleet.Apart(peaked(b...), peaked(a...), open(), "a")
		wantRatio(t, fmt.Sprint("Apart of ", c, " the other way"), got, e, want.Neg(want))
	}
}

func wantOdd(t *testing.T, l []int, factor int, want ...int) {
	t.Helper()
	odd, e := fleet.Odd(peaked(l...), open(), "a", factor)
	wantErrno(t, "Odd", e, api.OK)
	wantSame(t, fmt.Sprint("Odd of ", l, " with ", factor), odd, want)
}

// I4
func TestOdd(t *testing.T) {
	l := []int{10, 30, 11, 8, -20, 12, 14} // the middle one is 11, and that of the distances 3
	wantOdd(t, l, 1, 1, 4)
	wantOdd(t, l, 6, 1, 4)
	wantOdd(t, l, 7, 4)
	wantOdd(t, l, 10, 4)
	wantOdd(t, l, 11)
	wantOdd(t, []int{5, 5, 5, 6}, fleet.MaxFactor, 3)
	wantOdd(t, []int{5, 4, 5, 6}, 1, 1, 3)
	wantOdd(t, []int{5}, 1)
	wantOdd(t, []int{1, 9}, 1, 1) // the lesser one of both is the middle
	wantOdd(t, []int{-most, -most, most, most}, fleet.MaxFactor, 2, 3)
	wantOdd(t, []int{-most, most, most}, 1, 0)
	wantOdd(t, []int{-most, -most + 1, most, most, most - 1, 0, 5}, fleet.MaxFactor)
}

// I4: numbers of fleets are those of the plainest reading.
func TestNumbersArePlain(t *testing.T) {
	r := dice(6)
	found := 0
	for range 1500 {
		l, other, m := sameDen(someFlights(r)), sameDen(someFlights(r)), someMask(r)
		name := pick(r, someNames()...)
		peaks, flights := plainPeaks(l, m, name)
		mean, e := fleet.Mean(l, m, name)
		if len(peaks) < m.Least {
			wantErrno(t, "Mean", e, api.ErrNone)
			continue
		}
		found++
		wantRatio(t, "Mean", mean, e, plainMean(peaks))
		den := 1 + r.IntN(8)
		num := r.IntN(den + 1)
		n, e := fleet.Quantile(l, m, name, num, den)
		wantErrno(t, "Quantile", e, api.OK)
		wantSame(t, "Quantile", n, plainQuantile(peaks, num, den))
		factor := 1 + r.IntN(3)
		odd, e := fleet.Odd(l, m, name, factor)
		wantErrno(t, "Odd", e, api.OK)
		wantSame(t, "Odd", odd, plainOdd(peaks, flights, factor))
		apart, e := fleet.Apart(l, other, m, name)
		others, _ := plainPeaks(other, m, name)
		if len(others) < m.Least {
			wantErrno(t, "Apart", e, api.ErrNone)
			continue
		}
		wantRatio(t, "Apart", apart, e, new(big.Rat).Sub(plainMean(peaks), plainMean(others)))
	}
	if found < 300 {
		t.Errorf("%d lists with enough peaks", found)
	}
}

func plainOdd(peaks, flights []int, factor int) []int {
	apart := func(n int) int { return max(n-plainQuantile(peaks, 1, 2), plainQuantile(peaks, 1, 2)-n) }
	distances := many(len(peaks), func(i int) int { return apart(peaks[i]) })
	var odd []int
	for i, n := range peaks {
		if apart(n) > factor*plainQuantile(distances, 1, 2) {
			odd = append(odd, flights[i])
		}
	}
	return odd
}

// I4: Dens must be equal where there are peaks.
func TestDens(t *testing.T) {
	for k := range 4 {
		l := peaked(1, 2, 3, 4)
		l[k].Tracks[0].Series.Den = 2
		wantWrong(t, "Mean", results(fleet.Mean(l, open(), "a")), api.ErrForm)
		wantWrong(t, "Apart", results(fleet.Apart(l, peaked(1), open(), "a")), api.ErrForm)
		wantWrong(t, "Apart", results(fleet.Apart(peaked(1), l, open(), "a")), api.ErrForm)
	}
}
