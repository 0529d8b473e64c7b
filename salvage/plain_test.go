package salvage_test

import (
	"math/rand/v2"
	"slices"
	"testing"

	"orangebox/api"
	"orangebox/frame"
)

// What follows says in the plainest way what is left in pieces, without a thought for the time that it takes.

func plainRests(p api.Piece) []api.Rest {
	halves := halvesOf(p)
	certain := plainCertain(soundIn(halves))
	by := map[int][]api.Rest{}
	for _, c := range certain {
		r := soundRest(c.Frame, 1)
		by[r.Number] = append(by[r.Number], r)
	}
	for x := -191; x < len(halves); x++ {
		for i := range certain {
			if !isBeside(x, i, certain) {
				continue
			}
			f, whole := frameAt(halves, x)
			n, ok := plainNumber(f, whole, x, i, certain)
			if !ok {
				continue
			}
			if r := plainDoubtful(f, whole, n); r.States != all(api.WordLost) {
				by[n] = append(by[n], r)
			}
		}
	}
	return plainMerges(by)
}

func plainCertain(l []api.Found) []api.Found {
	var c []api.Found
	for i := range l {
		alone := true
		for j := range l {
			alone = alone && (i == j || distance(l[i].At, l[j].At) >= 192)
		}
		if alone {
			c = append(c, l[i])
		}
	}
	return c
}

func distance(a, b int) int {
	if a < b {
		return b - a
	}
	return a - b
}

func isBeside(x, i int, certain []api.Found) bool {
	c := certain[i].At
	if x == c || (x-c)%194 != 0 {
		return false
	}
	for j, d := range certain {
		far := distance(d.At, x)
		if far < 192 || far < distance(c, x) || far == distance(c, x) && j < i {
			return false
		}
	}
	return true
}

func plainNumber(f api.Frame, whole [api.Words]bool, x, i int, certain []api.Found) (int, bool) {
	if whole[0] && whole[1] && whole[2] {
		low, lowOdd, _ := frame.Data(int(f[1]))
		high, highOdd, _ := frame.Data(int(f[2]))
		sync, _ := frame.Sync(low + 2048*high)
		if lowOdd && highOdd && sync == int(f[0]) {
			return low + 2048*high, true
		}
	}
	best := -1
	for j, d := range certain {
		if j == i || (d.At-certain[i].At)%194 != 0 {
			continue
		}
		if best < 0 || distance(d.At, x) < distance(certain[best].At, x) {
			best = j
		}
	}
	if best < 0 {
		return 0, false
	}
	n, _ := frame.Number(certain[i].Frame)
	m, _ := frame.Number(certain[best].Frame)
	steps, more := (certain[best].At-certain[i].At)/194, m-n
	if steps < 0 {
		steps, more = -steps, -more
	}
	if more <= 0 || more%steps != 0 {
		return 0, false
	}
	n += (x - certain[i].At) / 194 * (more / steps)
	return n, n >= 0 && n < api.Number
}

func plainDoubtful(f api.Frame, whole [api.Words]bool, number int) api.Rest {
	r := api.Rest{Number: number}
	for i, w := range f {
		data, odd, _ := frame.Data(int(w))
		sync, _ := frame.Sync(number)
		right := odd
		switch i {
		case 0:
			right = int(w) == sync
		case 1:
			right = odd && data == number%2048
		case 2:
			right = odd && data == number/2048
		}
		if whole[i] && right {
			r.Frame[i], r.States[i] = w, api.WordDoubtful
		}
	}
	return r
}

func plainMerges(by map[int][]api.Rest) []api.Rest {
	var l []api.Rest
	for _, rests := range by {
		l = append(l, plainMerge(rests))
	}
	slices.SortFunc(l, func(a, b api.Rest) int { return a.Number - b.Number })
	return l
}

func plainMerge(l []api.Rest) api.Rest {
	m := api.Rest{Number: l[0].Number}
	frames := map[api.Frame]bool{}
	for _, r := range l {
		m.Copies += r.Copies
		m.Conflict = m.Conflict || r.Conflict
		if r.Sound {
			frames[r.Frame] = true
		}
	}
	m.Conflict = m.Conflict || len(frames) > 1
	if m.Conflict {
		return m
	}
	m.Sound = len(frames) == 1
	for i := range api.Words {
		words := map[uint16]bool{}
		for _, r := range l {
			if m.Sound && r.Sound {
				m.States[i] = max(m.States[i], r.States[i])
				m.Frame[i] = r.Frame[i]
			}
			if !m.Sound && r.States[i] != api.WordLost {
				words[r.Frame[i]] = true
			}
		}
		if len(words) == 1 {
			m.States[i] = api.WordDoubtful
			for w := range words {
				m.Frame[i] = w
			}
		}
	}
	if n, ok := frame.Number(m.Frame); !m.Sound && m.States == all(api.WordDoubtful) && ok && n == m.Number && len(frame.Flaws(m.Frame)) == 0 {
		m.Sound, m.States, m.Copies = true, all(api.WordGood), 1
	}
	if m.Sound && m.States == all(api.WordGood) && m.Copies == 0 {
		m.Copies = 1
	}
	return m
}

// plainMended tries each word at the place of the lost one.
func plainMended(r api.Rest) api.Rest {
	place, lost := 0, 0
	for i, s := range r.States {
		if s == api.WordLost {
			place = i
			lost++
		}
	}
	if r.Sound || r.Conflict || lost != 1 {
		return r
	}
	for w := range 4096 {
		f := r.Frame
		f[place] = uint16(w)
		if n, ok := frame.Number(f); ok && n == r.Number && len(frame.Flaws(f)) == 0 {
			return mendedRest(f, 0, place)
		}
	}
	return r
}

// jumbled returns the halves of frames in rows as in a memory, some of them spoilt, with gaps between the rows, and cut anywhere.
func jumbled(t *testing.T, r *rand.Rand, frames int) []int {
	t.Helper()
	var halves []int
	for frames > 0 {
		n := 1 + r.IntN(8)
		frames -= n
		halves = append(halves, rowOf(t, r, n)...)
		for range r.IntN(3) * r.IntN(250) {
			halves = append(halves, r.IntN(16))
		}
		if r.IntN(6) == 0 {
			halves = append(halves, joint(t, 4*r.IntN(50), 4*r.IntN(50), 1)...)
		}
	}
	from := r.IntN(300)
	return halves[from : from+r.IntN(len(halves)-from)+1]
}

// rowOf returns frames that are 194 halves apart, whose numbers mostly rise evenly.
func rowOf(t *testing.T, r *rand.Rand, frames int) []int {
	t.Helper()
	var halves []int
	number, step := r.IntN(60), []int{1, 1, 1, 2, 3, 0, -1}[r.IntN(7)]
	for range frames {
		h := spelt(numbered(t, number, r.IntN(12)/11))
		switch r.IntN(6) {
		case 0:
			spoil(r, h, 1+r.IntN(3))
		case 1:
			spoil(r, h, 40)
		case 2:
			spoil(r, h[:9], 1+r.IntN(4))
		}
		if r.IntN(12) == 0 {
			h = noise(192)
		}
		halves = append(halves, h...)
		halves = append(halves, 0, 0)
		if r.IntN(15) > 0 {
			number = max(number+step, 0)
		} else {
			number = r.IntN(60)
		}
	}
	return halves
}

// spoil changes some halves.
func spoil(r *rand.Rand, halves []int, times int) {
	for range times {
		halves[r.IntN(len(halves))] ^= 1 + r.IntN(15)
	}
}
