package salvage_test

import (
	"fmt"
	"slices"
	"testing"

	"orangebox/api"
	"orangebox/frame"
	"orangebox/salvage"
)

// headless is the halves of a frame whose words 0, 1 and 2 are no words.
func headless(f api.Frame) []int {
	h := spelt(f)
	clear(h[:9])
	return h
}

// rowed returns halves of frames with two halves 0 behind each one, as in a memory.
func rowed(l ...[]int) []int {
	var h []int
	for _, f := range l {
		h = append(h, f...)
		h = append(h, 0, 0)
	}
	return h
}

// D3: certain frames are sound, with all words good, by their numbers.
func TestRestsOfCertain(t *testing.T) {
	f, g := numbered(t, 70, 0), numbered(t, 9, 0)
	l := restsOf(t, packed(spaced(2, f, g, f), true))
	wantSame(t, "Rests", l, []api.Rest{soundRest(g, 1), soundRest(f, 2)})
	wantNothing(t, "Rests of noise", restsOf(t, packed(noise(1000), false)))
	wantNothing(t, "Rests of nothing", restsOf(t, api.Piece{}))
	wantNothing(t, "Rests of a spoilt frame and no certain one", restsOf(t, packed(headless(f), false)))
}

// D3: two frames of a piece with one number.
func TestRestsInConflict(t *testing.T) {
	f, g := numbered(t, 70, 0), numbered(t, 70, 1)
	l := restsOf(t, packed(spaced(2, f, g), false))
	wantSame(t, "Rests", l, []api.Rest{{Number: 70, Conflict: true, Copies: 2}})
}

// D3: what is left of a frame beside a certain one that tells its own number.
func TestOwnNumber(t *testing.T) {
	f, g := numbered(t, 70, 0), numbered(t, 1234567, 0)
	bad := g
	bad[20] ^= 1
	bad[63] ^= 1
	want := doubtfulRest(1234567, bad, 20, 63)
	for _, l := range [][][]int{{spelt(f), spelt(bad)}, {spelt(bad), spelt(f)}, {spelt(bad), noise(192), noise(192), spelt(f)}} {
		wantSame(t, "Rests", restsOf(t, packed(rowed(l...), true)), []api.Rest{soundRest(f, 1), want})
	}
	wantSame(t, "Rests with its beginning only", restsOf(t, packed(rowed(spelt(f), spelt(g))[:194+10], false)),
		[]api.Rest{soundRest(f, 1), doubtfulRest(1234567, g, upTo(3, 64)...)})
	wantSame(t, "Rests without a number", restsOf(t, packed(rowed(spelt(f), spelt(g))[:194+7], true)), []api.Rest{soundRest(f, 1)})
}

// D3: a frame of which one of the words 0, 1 and 2 is spoilt does not tell its number.
func TestNoOwnNumber(t *testing.T) {
	f, g := numbered(t, 70, 0), numbered(t, 71, 0)
	for i := range 3 {
		bad := g
		bad[i] ^= 1
		wantSame(t, "Rests of a row without another certain place", restsOf(t, packed(rowed(spelt(f), spelt(bad)), false)), []api.Rest{soundRest(f, 1)})
		h := numbered(t, 72, 0)
		l := restsOf(t, packed(rowed(spelt(f), spelt(bad), spelt(h)), false))
		wantSame(t, "Rests of a row with one", l, []api.Rest{soundRest(f, 1), doubtfulRest(71, bad, i), soundRest(h, 1)})
	}
	// The sync word is that of the number, and the parities of the words 1 and 2 are right, but another number was told.
	bad := g
	bad[1], bad[2] = numbered(t, 71+4*2048, 0)[1], numbered(t, 71+4*2048, 0)[2]
	l := restsOf(t, packed(rowed(spelt(f), spelt(bad), spelt(numbered(t, 72, 0))), false))
	wantSame(t, "numbers", numbersOf(l), []int{70, 72, 71 + 4*2048})
}

// D3: numbers that are counted from a certain place on, by another one.
func TestCountedNumbers(t *testing.T) {
	sound := func(n int) []int { return spelt(numbered(t, n, 0)) }
	spoilt := func(n int) []int { return headless(numbered(t, n, 0)) }
	left := func(n int) api.Rest { return doubtfulRest(n, numbered(t, n, 0), 0, 1, 2) }
	there := func(n int) api.Rest { return soundRest(numbered(t, n, 0), 1) }
	for _, c := range []struct {
		name   string
		halves []int
		want   []api.Rest
	}{
		{"between", rowed(sound(10), spoilt(11), spoilt(12), sound(13)), []api.Rest{there(10), left(11), left(12), there(13)}},
		{"behind", rowed(sound(10), sound(11), spoilt(12), spoilt(13)), []api.Rest{there(10), there(11), left(12), left(13)}},
		{"ahead", rowed(spoilt(8), spoilt(9), sound(10), sound(11)), []api.Rest{left(8), left(9), there(10), there(11)}},
		{"by threes", rowed(spoilt(7), sound(10), spoilt(13), sound(16), spoilt(19)), []api.Rest{left(7), there(10), left(13), there(16), left(19)}},
		{"equal numbers", rowed(sound(10), spoilt(10), sound(10)), []api.Rest{soundRest(numbered(t, 10, 0), 2)}},
		{"falling numbers", rowed(sound(12), spoilt(11), sound(10), spoilt(9)), []api.Rest{there(10), there(12)}},
		{"uneven numbers", rowed(sound(10), spoilt(11), sound(13)), []api.Rest{there(10), there(13)}},
		{"down to 0", rowed(spoilt(0), sound(1), sound(2)), []api.Rest{left(0), there(1), there(2)}},
		{"below 0", rowed(spoilt(5), spoilt(0), sound(1), sound(2)), []api.Rest{left(0), there(1), there(2)}},
		{"up to the greatest", rowed(sound(api.Number-3), sound(api.Number-2), spoilt(api.Number-1)), []api.Rest{there(api.Number - 3), there(api.Number - 2), left(api.Number - 1)}},
		{"above the greatest", rowed(sound(api.Number-2), sound(api.Number-1), spoilt(0)), []api.Rest{there(api.Number - 2), there(api.Number - 1)}},
		{"by the nearest other one", rowed(sound(1), noise(192), sound(5), spoilt(6), spoilt(7), sound(8)), []api.Rest{there(1), there(5), left(6), left(7), there(8)}},
		{"by the nearest other one, though it does not fit", rowed(sound(10), sound(11), spoilt(12), sound(10)), []api.Rest{soundRest(numbered(t, 10, 0), 2), there(11)}},
		{"by the earlier one of two equally near", rowed(sound(10), sound(12), spoilt(14), noise(192), sound(9)), []api.Rest{there(9), there(10), there(12), left(14)}},
		{"by the earlier one, though it does not fit", rowed(sound(10), noise(192), sound(9), spoilt(10), noise(192), sound(12)), []api.Rest{there(9), there(10), there(12)}},
	} {
		wantSame(t, c.name, restsOf(t, packed(c.halves, false)), c.want)
	}
}

// D3: a place that is nearer to a certain place of another row is beside none.
func TestNearerRow(t *testing.T) {
	f := func(n int) []int { return spelt(numbered(t, n, 0)) }
	spoilt := func(n int) []int { return headless(numbered(t, n, 0)) }
	halves := rowed(f(10), f(11), spoilt(12))
	far := slices.Concat(halves, noise(3), f(500))
	wantSame(t, "another row behind, as far", numbersOf(restsOf(t, packed(far, false))), []int{10, 11, 12, 500})
	near := slices.Concat(halves[:3*194-1], f(500)) // one half nearer than the certain place ahead
	wantSame(t, "another row behind, nearer", numbersOf(restsOf(t, packed(near, false))), []int{10, 11, 500})
	even := slices.Concat(halves, f(13))
	wantSame(t, "the same row behind", numbersOf(restsOf(t, packed(even, false))), []int{10, 11, 12, 13})
	ahead := slices.Concat(f(500), noise(1), rowed(spoilt(9), f(10), f(11)))
	wantSame(t, "another row ahead, nearer", numbersOf(restsOf(t, packed(ahead, false))), []int{10, 11, 500})
	ahead = slices.Concat(f(500), noise(3), rowed(spoilt(9), f(10), f(11)))
	wantSame(t, "another row ahead, farther", numbersOf(restsOf(t, packed(ahead, false))), []int{9, 10, 11, 500})
}

// D3: of frames that stick out of a piece, the words that are there are left.
func TestFramesAtTheEnds(t *testing.T) {
	row := rowed(headless(numbered(t, 20, 0)), spelt(numbered(t, 21, 0)), spelt(numbered(t, 22, 0)), headless(numbered(t, 23, 0)))
	for cut := range 193 {
		h := row[cut : len(row)-2-cut]
		p := packed(h, len(h)%2 == 1) // so that no half is added
		gone := (cut + 2) / 3         // words of a frame
		var want []api.Rest
		if gone < 64 {
			want = append(want, doubtfulRest(20, numbered(t, 20, 0), upTo(0, max(gone, 3))...))
		}
		want = append(want, soundRest(numbered(t, 21, 0), 1), soundRest(numbered(t, 22, 0), 1))
		if gone < 61 {
			want = append(want, doubtfulRest(23, numbered(t, 23, 0), append([]int{0, 1, 2}, upTo(64-gone, 64)...)...))
		}
		wantSame(t, fmt.Sprintf("Rests without %d halves at both ends", cut), restsOf(t, p), want)
	}
}

// D3: words that are right by themselves, and those that are not.
func TestRightWords(t *testing.T) {
	f := numbered(t, 31, 0)
	for i := range api.Words {
		bad := f
		bad[i] ^= 3 // its parity stays right
		if i != 5 {
			bad[5] ^= 1
		} else {
			bad[6] ^= 1
		}
		l := restsOf(t, packed(rowed(spelt(numbered(t, 30, 0)), spelt(bad), spelt(numbered(t, 32, 0))), false))
		want := doubtfulRest(31, bad, 5)
		if i == 5 {
			want = doubtfulRest(31, bad, 6)
		}
		if i < 3 {
			want = doubtfulRest(31, bad, i, 5)
		}
		if i == 1 && bad[1]%4 == 31%4 {
			t.Fatal("the sync word tells nothing")
		}
		if i == 2 { // another number with the same sync word, which it tells itself
			n, _ := frame.Number(bad)
			want = doubtfulRest(n, bad, 5)
		}
		wantSame(t, fmt.Sprintf("with word %d changed", i), find(l, want.Number), want)
	}
}

// find returns the rest with a number, or another one.
func find(l []api.Rest, number int) api.Rest {
	for _, r := range l {
		if r.Number == number {
			return r
		}
	}
	return api.Rest{Number: -1}
}

// D3: a sound frame that is not certain can be beside a certain place: it is then put together from its own words.
func TestUncertainBeside(t *testing.T) {
	two := joint(t, 8, 1000, 1)
	l := restsOf(t, packed(slices.Concat(rowed(spelt(numbered(t, 7, 0))), two), false))
	f, _ := frameAt(two, 0)
	wantSame(t, "Rests", l, []api.Rest{soundRest(numbered(t, 7, 0), 1), soundRest(f, 1)})
	l = restsOf(t, packed(slices.Concat(two, []int{0, 0}, spelt(numbered(t, 7, 0))), false))
	g, _ := frameAt(two, 191)
	wantSame(t, "Rests", l, []api.Rest{soundRest(numbered(t, 7, 0), 1), soundRest(g, 1)})
	wantNothing(t, "Rests with none that is certain", restsOf(t, packed(two, false)))
}

// D3: Rests against the plainest way, with frames and pieces of frames anywhere.
func TestRestsOfMany(t *testing.T) {
	r := dice(6)
	doubtful := 0
	for round := range 400 {
		p := packed(jumbled(t, r, 3+r.IntN(20)), r.IntN(2) == 0)
		l := restsOf(t, p)
		wantSame(t, fmt.Sprintf("Rests, round %d", round), l, plainRests(p))
		for _, rest := range l {
			wantErrno(t, "CheckRest", salvage.CheckRest(rest), api.OK)
			if !rest.Sound {
				doubtful++
			}
		}
	}
	if doubtful < 400 {
		t.Errorf("only %d rests were not sound", doubtful)
	}
}
