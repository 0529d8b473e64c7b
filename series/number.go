package series

import (
	"cmp"
	"slices"

	"orangebox/api"
)

// sorted returns numbers in order of size, and leaves the list as it is.
func sorted[T cmp.Ordered](l []T) []T {
	s := slices.Clone(l)
	slices.Sort(s)
	return s
}

func isWithin(n, most int) bool {
	return n >= -most && n <= most
}

func size(n int) int {
	return max(n, -n)
}

// floor divides, and rounds down.
func floor(a, b int) int {
	q := a / b
	if a%b != 0 && (a < 0) != (b < 0) {
		q--
	}
	return q
}

// ceil divides, and rounds up.
func ceil(a, b int) int {
	return -floor(-a, b)
}

// lowest returns a fraction in lowest terms. It wants a positive den.
func lowest(num, den int) api.Ratio {
	a, b := size(num), den
	for b != 0 {
		a, b = b, a%b
	}
	return api.Ratio{Num: num / a, Den: den / a}
}
