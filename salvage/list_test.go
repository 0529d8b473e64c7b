package salvage_test

import (
	"fmt"
	"math/rand/v2"
	"slices"
	"testing"

	"orangebox/api"
	"orangebox/salvage"
)

// listed returns rests with these numbers, of which some have words.
func listed(t *testing.T, numbers []int, lost func(number int) bool) []api.Rest {
	t.Helper()
	var l []api.Rest
	for _, n := range numbers {
		if lost(n) {
			l = append(l, api.Rest{Number: n, Conflict: n%2 == 0})
		} else {
			l = append(l, doubtfulRest(n, numbered(t, n, 0), upTo(0, 63)...))
		}
	}
	return l
}

func gapsOf(t *testing.T, l []api.Rest) []api.Gap {
	t.Helper()
	g, e := salvage.Gaps(l)
	wantErrno(t, "Gaps", e, api.OK)
	return g
}

// D5: numbers without a rest, or whose words are all lost.
func TestGaps(t *testing.T) {
	whole := func(int) bool { return false }
	gone := func(l ...int) func(int) bool { return func(n int) bool { return slices.Contains(l, n) } }
	for name, c := range map[string]struct {
		list []api.Rest
		want []api.Gap
	}{
		"nothing":              {nil, nil},
		"one":                  {listed(t, []int{5}, whole), nil},
		"one that is lost":     {listed(t, []int{5}, gone(5)), []api.Gap{{From: 5, To: 5}}},
		"no gap":               {listed(t, []int{5, 6, 7}, whole), nil},
		"one number":           {listed(t, []int{5, 7}, whole), []api.Gap{{From: 6, To: 6}}},
		"many numbers":         {listed(t, []int{0, 9, api.Number - 1}, whole), []api.Gap{{From: 1, To: 8}, {From: 10, To: api.Number - 2}}},
		"the first one lost":   {listed(t, []int{5, 6, 7}, gone(5)), []api.Gap{{From: 5, To: 5}}},
		"the last one lost":    {listed(t, []int{5, 6, 7}, gone(7)), []api.Gap{{From: 7, To: 7}}},
		"one in the middle":    {listed(t, []int{5, 6, 7}, gone(6)), []api.Gap{{From: 6, To: 6}}},
		"lost beside missing":  {listed(t, []int{5, 8, 9, 12}, gone(8, 9)), []api.Gap{{From: 6, To: 11}}},
		"all lost":             {listed(t, []int{5, 8, 9}, gone(5, 8, 9)), []api.Gap{{From: 5, To: 9}}},
		"both ends, and a gap": {listed(t, []int{5, 6, 8, 9}, gone(5, 9)), []api.Gap{{From: 5, To: 5}, {From: 7, To: 7}, {From: 9, To: 9}}},
	} {
		wantSame(t, name, gapsOf(t, c.list), c.want)
	}
}

// D5: Gaps against a look at each number.
func TestGapsMany(t *testing.T) {
	r := dice(11)
	for range 200 {
		numbers := upTo(0, 20)
		numbers = slices.DeleteFunc(numbers, func(int) bool { return r.IntN(3) == 0 })
		l := listed(t, numbers, func(int) bool { return r.IntN(4) == 0 })
		if len(l) == 0 {
			continue
		}
		var want []api.Gap
		for n := l[0].Number; n <= l[len(l)-1].Number; n++ {
			if find(l, n).Number == n && find(l, n).States != all(api.WordLost) {
				continue
			}
			if k := len(want); k > 0 && want[k-1].To == n-1 {
				want[k-1].To = n
			} else {
				want = append(want, api.Gap{From: n, To: n})
			}
		}
		wantSame(t, "Gaps", gapsOf(t, l), want)
	}
}

// D5: numbers rise.
func TestRising(t *testing.T) {
	whole := func(int) bool { return false }
	for _, numbers := range [][]int{{5, 5}, {5, 4}, {1, 2, 3, 3}, {9, 1, 2}} {
		l := listed(t, numbers, whole)
		g, e := salvage.Gaps(l)
		wantErrno(t, fmt.Sprint("Gaps of ", numbers), e, api.ErrOrder)
		s, e := salvage.Superframe(l, -1)
		wantErrno(t, fmt.Sprint("Superframe of ", numbers), e, api.ErrOrder)
		wantNothing(t, "rests whose numbers do not rise", g, s)
		_, e = salvage.Gaps(append(l, api.Rest{Number: -1}))
		wantErrno(t, "Gaps, with a wrong rest behind", e, api.ErrRange)
	}
}

// D5: numbers with a conflict, as they stand in any list.
func TestConflicts(t *testing.T) {
	l := []api.Rest{{Number: 9, Conflict: true}, {Number: 3}, {Number: 4, Conflict: true}, soundRest(numbered(t, 2, 0), 1), {Number: 9, Conflict: true}, {Number: 0, Conflict: true}}
	n, e := salvage.Conflicts(l)
	wantErrno(t, "Conflicts", e, api.OK)
	wantSame(t, "Conflicts", n, []int{9, 4, 9, 0})
	n, e = salvage.Conflicts(l[1:2])
	wantErrno(t, "Conflicts of none", e, api.OK)
	wantNothing(t, "Conflicts of none", n)
	n, e = salvage.Conflicts(nil)
	wantErrno(t, "Conflicts of nothing", e, api.OK)
	wantNothing(t, "Conflicts of nothing", n)
}

// D5: the rests of a superframe.
func TestSuperframe(t *testing.T) {
	l := listed(t, []int{0, 15, 16, 17, 30, 31, 32, 33, api.Number - 16, api.Number - 1}, func(n int) bool { return n == 17 })
	for _, first := range []int{0, 16, 32, 48, api.Number - 16} {
		s, e := salvage.Superframe(l, first)
		wantErrno(t, "Superframe", e, api.OK)
		for i, r := range s {
			want := find(l, first+i)
			if want.Number < 0 {
				want = api.Rest{Number: first + i}
			}
			wantSame(t, fmt.Sprintf("rest %d of the superframe %d", i, first), r, want)
		}
	}
	s, e := salvage.Superframe(nil, 32)
	wantErrno(t, "Superframe of nothing", e, api.OK)
	wantSame(t, "the last one", s[15], api.Rest{Number: 47})
}

// D5: numbers with which no superframe begins.
func TestSuperframeErrors(t *testing.T) {
	for _, first := range append(beyond(), -1, -16, api.Number-15, api.Number, api.Number+16) {
		s, e := salvage.Superframe(nil, first)
		wantErrno(t, fmt.Sprintf("Superframe %d", first), e, api.ErrRange)
		wantNothing(t, "Superframe", s)
	}
	for _, first := range []int{1, 8, 15, 17, api.Number - 17} {
		s, e := salvage.Superframe(nil, first)
		wantErrno(t, fmt.Sprintf("Superframe %d", first), e, api.ErrForm)
		wantNothing(t, "Superframe", s)
	}
}

// plainOverlap tries each number of halves.
func plainOverlap(p, q []int) int {
	for n := min(len(p), len(q)); n > 0; n-- {
		if slices.Equal(p[len(p)-n:], q[:n]) {
			return n
		}
	}
	return 0
}

func checkOverlap(t *testing.T, p, q api.Piece) {
	t.Helper()
	want := plainOverlap(halvesOf(p), halvesOf(q))
	for _, least := range []int{1, want - 1, want, want + 1, 2 * salvage.MaxBytes} {
		if least < 1 {
			continue
		}
		n, ok, e := salvage.Overlap(p, q, least)
		wantErrno(t, "Overlap", e, api.OK)
		if want >= least {
			wantSame(t, fmt.Sprintf("Overlap of %v and %v", p, q), n, want)
			wantSame(t, "whether it is enough", ok, true)
		} else {
			wantNothing(t, fmt.Sprintf("Overlap of %v and %v, at least %d", p, q, least), n, ok)
		}
	}
}

func few(r *rand.Rand, most int) []int {
	l := make([]int, r.IntN(most+1))
	for i := range l {
		l[i] = r.IntN(2)
	}
	return l
}

// D5: Overlap against each number of halves.
func TestOverlap(t *testing.T) {
	r := dice(12)
	for range 20000 {
		checkOverlap(t, packed(few(r, 14), r.IntN(2) == 0), packed(few(r, 14), r.IntN(2) == 0))
	}
	long := few(r, 3000)
	for range 20 {
		at := r.IntN(len(long))
		checkOverlap(t, packed(long[:at+r.IntN(len(long)-at)], false), packed(long[at:], true))
	}
}

// D5: the least number of halves of an overlap.
func TestOverlapLeast(t *testing.T) {
	p := api.Piece{Bytes: []byte{1, 2}}
	for _, least := range append(beyond(), 0, -1, 2*salvage.MaxBytes+1) {
		n, ok, e := salvage.Overlap(p, p, least)
		wantErrno(t, fmt.Sprintf("Overlap of at least %d", least), e, api.ErrRange)
		wantNothing(t, "Overlap", n, ok)
	}
	most := api.Piece{Bytes: make([]byte, salvage.MaxBytes)}
	n, ok, e := salvage.Overlap(most, most, 2*salvage.MaxBytes)
	wantErrno(t, "Overlap of all", e, api.OK)
	wantSame(t, "Overlap of all", n, 2*salvage.MaxBytes)
	wantSame(t, "Overlap of all", ok, true)
	other := copyOf(most)
	other.Bytes[salvage.MaxBytes-1] = 1 // each beginning nearly fits
	n, ok, e = salvage.Overlap(most, other, 1)
	wantErrno(t, "Overlap of nearly all", e, api.OK)
	wantSame(t, "Overlap of nearly all", n, 2*salvage.MaxBytes-1)
	wantSame(t, "Overlap of nearly all", ok, true)
	n, ok, e = salvage.Overlap(other, most, 1)
	wantErrno(t, "Overlap of none", e, api.OK)
	wantNothing(t, "Overlap of none", n, ok)
}
