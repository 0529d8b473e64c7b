package series

import (
	"cmp"
	"slices"

	"orangebox/api"
)

const maxRatio = 1 << 62 // the size of a numerator and of a denominator

// sorted returns numbers in order of size, and leaves the list as it is.
func sorted[T cmp.Ordered](l []T) []T {
	s := slices.Clone(l)
	slices.Sort(s)
	return s
}

func isWithin(n, most int) bool {
	return n >= -most && n <= most
}

func size(n int) int {
	return max(n, -n)
}

// Floor divides, and rounds down.
func Floor(a, b int) int {
	q := a / b
	if a%b != 0 && (a < 0) != (b < 0) {
		q--
	}
	return q
}

// ceil divides, and rounds up.
func ceil(a, b int) int {
	return -Floor(-a, b)
}

// Lowest returns a fraction in lowest terms. It wants a positive den.
func Lowest(num, den int) api.Ratio {
	a, b := size(num), den
	for b != 0 {
		a, b = b, a%b
	}
	return api.Ratio{Num: num / a, Den: den / a}
}

// Mixed returns the sum of a whole number and of a fraction in lowest terms, or false if its numerator is beyond its limit.
func Mixed(whole int, part api.Ratio) (api.Ratio, bool) {
	if whole > (maxRatio-part.Num)/part.Den || whole < -((maxRatio+part.Num)/part.Den) {
		return api.Ratio{}, false
	}
	return api.Ratio{Num: whole*part.Den + part.Num, Den: part.Den}, true
}
