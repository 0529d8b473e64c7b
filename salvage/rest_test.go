package salvage_test

import (
	"fmt"
	"math/rand/v2"
	"slices"
	"testing"

	"orangebox/api"
	"orangebox/frame"
	"orangebox/salvage"
)

// D4: what is wrong with a rest, in the order of the document.
func TestCheckRest(t *testing.T) {
	for name, w := range wrongRests(t) {
		wantErrno(t, name, salvage.CheckRest(w.rest), w.errno)
	}
	f, last := numbered(t, 40, 0), numbered(t, api.Number-1, 0)
	wide := doubtfulRest(40, f)
	wide.Frame[9] = 4095
	zero := doubtfulRest(40, f)
	zero.Frame[9] = 0
	conflict := doubtfulRest(40, f, 5)
	conflict.Conflict, conflict.Copies = true, 3
	for name, r := range map[string]api.Rest{
		"nothing":                        {},
		"nothing of the last frame":      {Number: api.Number - 1},
		"a sound frame":                  soundRest(f, 1),
		"a sound frame in many places":   soundRest(last, 1<<40),
		"a mended frame":                 mendedRest(f, 0, 63),
		"a mended frame that was found":  mendedRest(f, 2, 0, 1, 2),
		"all words mended":               mendedRest(f, 0, upTo(0, 64)...),
		"some words":                     doubtfulRest(40, f, 0, 1, 2, 3),
		"all words":                      doubtfulRest(3, f),
		"a word with all bits":           wide,
		"a word that is 0 but not lost":  zero,
		"a conflict":                     {Number: 4, Conflict: true, Copies: 2},
		"a conflict with words, as told": conflict,
	} {
		wantErrno(t, name, salvage.CheckRest(r), api.OK)
	}
}

// D4: functions with rests first return the error of a rest, for each in order.
func TestWrongRests(t *testing.T) {
	fine := soundRest(numbered(t, 0, 0), 1)
	for name, w := range wrongRests(t) {
		list := []api.Rest{fine, w.rest, fine, {Number: -1}}
		m, e := salvage.Merge(list)
		wantErrno(t, "Merge with "+name, e, w.errno)
		d, e := salvage.Mended(w.rest)
		wantErrno(t, "Mended of "+name, e, w.errno)
		g, e := salvage.Gaps(list)
		wantErrno(t, "Gaps with "+name, e, w.errno)
		c, e := salvage.Conflicts(list)
		wantErrno(t, "Conflicts with "+name, e, w.errno)
		s, e := salvage.Superframe(list, -1)
		wantErrno(t, "Superframe with "+name, e, w.errno)
		wantNothing(t, name, m, d, g, c, s)
	}
}

// D4: what cannot be merged.
func TestMergeErrors(t *testing.T) {
	f := numbered(t, 40, 0)
	for name, l := range map[string][]api.Rest{
		"two numbers":           {soundRest(f, 1), {Number: 41}},
		"two numbers, the last": {{Number: 41}, {Number: 41}, doubtfulRest(40, f)},
		"conflicts of two":      {{Number: 41, Conflict: true}, {Number: 40, Conflict: true}},
	} {
		m, e := salvage.Merge(l)
		wantErrno(t, name, e, api.ErrForm)
		wantNothing(t, name, m)
	}
	m, e := salvage.Merge(nil)
	wantErrno(t, "Merge of nothing", e, api.ErrEmpty)
	wantNothing(t, "Merge of nothing", m)
}

// D4: rests that are sound.
func TestMergeSound(t *testing.T) {
	f, g := numbered(t, 40, 0), numbered(t, 40, 1)
	lost := api.Rest{Number: 40}
	other := doubtfulRest(40, g, 9)
	wantSame(t, "one", merged(t, soundRest(f, 3)), soundRest(f, 3))
	wantSame(t, "two", merged(t, soundRest(f, 3), soundRest(f, 4)), soundRest(f, 7))
	wantSame(t, "with others that are not", merged(t, other, soundRest(f, 2), lost, other), soundRest(f, 2))
	wantSame(t, "a mended one", merged(t, mendedRest(f, 0, 8)), mendedRest(f, 0, 8))
	wantSame(t, "a mended one with its word", merged(t, mendedRest(f, 0, 8), doubtfulRest(40, f)), mendedRest(f, 0, 8))
	wantSame(t, "a mended one and a good one", merged(t, mendedRest(f, 0, 8), soundRest(f, 1)), soundRest(f, 1))
	wantSame(t, "mended at one place", merged(t, mendedRest(f, 0, 8, 9), mendedRest(f, 0, 9, 10)), mendedRest(f, 0, 9))
	wantSame(t, "mended at other places", merged(t, mendedRest(f, 0, 8), mendedRest(f, 0, 10)), soundRest(f, 1))
	wantSame(t, "mended at other places, and found", merged(t, mendedRest(f, 0, 8), mendedRest(f, 3, 10)), soundRest(f, 3))
	found := other
	found.Copies = 5
	wantSame(t, "copies of what is not sound", merged(t, found, mendedRest(f, 0, 8)), mendedRest(f, 5, 8))
}

// D4: sound frames that differ.
func TestMergeConflict(t *testing.T) {
	f, g := numbered(t, 40, 0), numbered(t, 40, 1)
	conflict := func(copies int) api.Rest { return api.Rest{Number: 40, Conflict: true, Copies: copies} }
	words := doubtfulRest(40, f, 3)
	words.Conflict, words.Copies = true, 4
	wantSame(t, "two frames", merged(t, soundRest(f, 1), soundRest(g, 2)), conflict(3))
	wantSame(t, "two frames among others", merged(t, doubtfulRest(40, f, 1), soundRest(f, 1), mendedRest(g, 0, 1), soundRest(f, 1)), conflict(2))
	wantSame(t, "a conflict", merged(t, conflict(0)), conflict(0))
	wantSame(t, "a conflict and a sound one", merged(t, soundRest(f, 2), conflict(7)), conflict(9))
	wantSame(t, "a conflict and words", merged(t, conflict(2), doubtfulRest(40, f)), conflict(2))
	wantSame(t, "a conflict that has words", merged(t, words), conflict(4))
}

// D4: rests that are not sound.
func TestMergeDoubtful(t *testing.T) {
	f, g := numbered(t, 40, 0), numbered(t, 41, 0)
	half, rest := doubtfulRest(40, f, upTo(0, 30)...), doubtfulRest(40, f, upTo(30, 64)...)
	wantSame(t, "one", merged(t, half), half)
	wantSame(t, "nothing", merged(t, api.Rest{Number: 40}, api.Rest{Number: 40}), api.Rest{Number: 40})
	wantSame(t, "two with words in common", merged(t, half, doubtfulRest(40, f, upTo(20, 63)...)), doubtfulRest(40, f, upTo(20, 30)...))
	wantSame(t, "put together from parts", merged(t, half, rest), soundRest(f, 1))
	wantSame(t, "whole words", merged(t, doubtfulRest(40, f)), soundRest(f, 1))
	wantSame(t, "a frame of another number", merged(t, doubtfulRest(40, g)), doubtfulRest(40, g))
	bad := f
	bad[33] ^= 1
	wantSame(t, "a wrong word", merged(t, half, rest, doubtfulRest(40, bad)), doubtfulRest(40, f, 33))
	wantSame(t, "all of it wrong", merged(t, doubtfulRest(40, bad)), doubtfulRest(40, bad))
	bad[33] ^= 2
	half.Copies, rest.Copies = 2, 3
	wantSame(t, "put together from parts that were found", merged(t, half, rest), soundRest(f, 1))
	want := doubtfulRest(40, f, 33)
	want.Copies = 5
	wantSame(t, "copies of parts", merged(t, half, rest, doubtfulRest(40, bad)), want)
	none := doubtfulRest(40, f)
	none.Frame[9] = 0 // it is there, and differs from the word
	wantSame(t, "a word that is 0", merged(t, none, doubtfulRest(40, f)), doubtfulRest(40, f, 9))
}

// someRest returns a rest of one of three frames with the number 40, or of a frame of which words were changed.
func someRest(t *testing.T, r *rand.Rand) api.Rest {
	f := numbered(t, 40, r.IntN(20)/18)
	var places []int
	for range r.IntN(3) {
		places = append(places, r.IntN(api.Words))
	}
	switch r.IntN(8) {
	case 0:
		return soundRest(f, 1+r.IntN(3))
	case 1:
		return mendedRest(f, r.IntN(2)+1, places...)
	case 2:
		return mendedRest(f, 0, append(places, r.IntN(api.Words))...)
	case 3:
		return api.Rest{Number: 40, Conflict: r.IntN(4) == 0, Copies: r.IntN(3)}
	case 4:
		f[r.IntN(api.Words)] ^= 1 << r.IntN(12)
	}
	d := doubtfulRest(40, f, append(places, upTo(0, r.IntN(64)*r.IntN(2))...)...)
	d.Copies = r.IntN(12) / 11
	return d
}

// D4: Merge against the plainest way, in any order.
func TestMergeMany(t *testing.T) {
	r := dice(7)
	kinds := map[string]int{}
	for round := range 3000 {
		var l []api.Rest
		for range 1 + r.IntN(4) {
			l = append(l, someRest(t, r))
		}
		m := merged(t, l...)
		wantSame(t, fmt.Sprintf("Merge, round %d", round), m, plainMerge(l))
		r.Shuffle(len(l), func(i, j int) { l[i], l[j] = l[j], l[i] })
		wantSame(t, "Merge in another order", merged(t, l...), m)
		wantSame(t, "Merge of one", merged(t, m), m)
		kinds[fmt.Sprint(m.Sound, m.Conflict)]++
	}
	for kind, n := range kinds {
		if n < 100 {
			t.Errorf("only %d of the kind %s", n, kind)
		}
	}
}

// D4: one lost word is found by the others.
func TestMended(t *testing.T) {
	f := numbered(t, 1234567, 3)
	for i := range api.Words {
		r := doubtfulRest(1234567, f, i)
		r.Copies = 7
		wantSame(t, fmt.Sprintf("word %d", i), mended(t, r), mendedRest(f, 0, i))
		next := doubtfulRest(1234567, f, i, (i+1)%64)
		wantSame(t, "two words", mended(t, next), next)
		wrong := r
		wrong.Frame[(i+5)%64] ^= 1
		wantSame(t, "one word, and a wrong one", mended(t, wrong), wrong)
		wrong = doubtfulRest(1234567, f)
		wrong.Frame[i] ^= 1
		wantSame(t, "a wrong word, and none that is lost", mended(t, wrong), wrong)
	}
}

// D4: rests that stay as they are.
func TestNotMended(t *testing.T) {
	f := numbered(t, 40, 0)
	conflict := doubtfulRest(40, f, 3)
	conflict.Conflict = true
	for name, r := range map[string]api.Rest{
		"sound":                        soundRest(f, 2),
		"mended":                       mendedRest(f, 1, 3),
		"a conflict with words":        conflict,
		"nothing":                      {Number: 40},
		"all words":                    doubtfulRest(40, f),
		"another number, word 1 lost":  doubtfulRest(41, f, 1),
		"another number, word 2 lost":  doubtfulRest(40+2048, f, 2),
		"another number, word 30 lost": doubtfulRest(44, f, 30),
		"the number of nothing":        doubtfulRest(0, f, 30),
	} {
		wantSame(t, name, mended(t, r), r)
	}
}

// D4: Mended against each word.
func TestMendedMany(t *testing.T) {
	r := dice(8)
	for round := range 60 {
		d := someRest(t, r)
		if i := r.IntN(api.Words); !d.Sound && round%3 > 0 {
			d.Frame[i], d.States[i] = 0, api.WordLost
		}
		wantSame(t, "Mended", mended(t, d), plainMended(d))
	}
}

// D4: pieces are put together: what one has not is in another one.
func TestSalvageOfParts(t *testing.T) {
	f, g := numbered(t, 40, 0), numbered(t, 41, 0)
	row := rowed(spelt(f), spelt(g))
	left, right := packed(row[:250], false), packed(slices.Concat(row[230:], spelt(numbered(t, 42, 0))), true)
	l := salvaged(t, left, right)
	wantSame(t, "numbers", numbersOf(l), []int{40, 41, 42})
	wantSame(t, "what stands in the first piece", l[0], soundRest(f, 1))
	gone := doubtfulRest(41, g, upTo(18, 64)...) // 250 - 194 = 56 halves are 18 words
	wantSame(t, "what one piece has", restsOf(t, left)[1], gone)
	wantSame(t, "what both pieces have", l[1], gone) // the other piece has one certain place only, and tells no number
	right = packed(slices.Concat(row[230:], rowed(spelt(numbered(t, 42, 0)), spelt(numbered(t, 43, 0)))), true)
	wantSame(t, "what both pieces have", salvaged(t, left, right)[1], soundRest(g, 1))
	right = packed(slices.Concat(row[254:], rowed(spelt(numbered(t, 42, 0)), spelt(numbered(t, 43, 0)))), true)
	wantSame(t, "with two words missing", salvaged(t, left, right)[1], doubtfulRest(41, g, 18, 19))
	right = packed(slices.Concat(row[250:], rowed(spelt(numbered(t, 42, 0)), spelt(numbered(t, 43, 0)))), true)
	wantSame(t, "with one word missing", salvaged(t, left, right)[1], mendedRest(g, 0, 18))
}

// D4: words that differ within one piece are lost before other pieces are looked at.
func TestSalvageMergesEachPiece(t *testing.T) {
	f, bad := numbered(t, 41, 0), numbered(t, 41, 0)
	bad[9] ^= 3
	bad[10] ^= 1
	twice := packed(rowed(spelt(numbered(t, 40, 0)), spelt(bad), spelt(numbered(t, 42, 0)), noise(191), spelt(numbered(t, 42, 0)), headless(f)), false)
	wantSame(t, "the words of the piece", find(salvaged(t, twice), 41), doubtfulRest(41, bad, 10))
	bad[10] ^= 1
	again := bad
	again[9] ^= 5
	again[10] ^= 1
	bad[11] ^= 1
	two := packed(rowed(spelt(numbered(t, 40, 0)), spelt(bad), spelt(again)), false)
	wantSame(t, "words that differ", find(restsOf(t, two), 41), doubtfulRest(41, f, 9))
	wantSame(t, "words that differ, mended", find(salvaged(t, two), 41), mendedRest(f, 0, 9))
	one := packed(rowed(spelt(numbered(t, 40, 0)), spelt(bad)), false)
	want := doubtfulRest(41, bad, 11)
	want.Frame[11], want.States[11] = f[11], api.WordDoubtful // from the other piece; word 9 is only that of this piece
	wantSame(t, "with a word of another piece", find(salvaged(t, two, one), 41), want)
	wantSame(t, "with a word of another piece ahead", find(salvaged(t, one, two), 41), want)
}

// D4: sound frames of several pieces that differ.
func TestSalvageOfConflicts(t *testing.T) {
	f, g := packed(spelt(numbered(t, 40, 0)), false), packed(spelt(numbered(t, 40, 1)), true)
	wantSame(t, "Salvage", salvaged(t, f, g, f), []api.Rest{{Number: 40, Conflict: true, Copies: 3}})
	wantSame(t, "Salvage", salvaged(t, f, f, f), []api.Rest{soundRest(numbered(t, 40, 0), 3)})
}

// D4: how far numbers can be apart.
func TestSpan(t *testing.T) {
	piece := func(n int) api.Piece { return packed(spelt(numbered(t, n, 0)), false) }
	l := salvaged(t, piece(7+salvage.MaxSpan), piece(7), piece(50))
	wantSame(t, "numbers", numbersOf(l), []int{7, 50, 7 + salvage.MaxSpan})
	r, e := salvage.Salvage([]api.Piece{piece(8 + salvage.MaxSpan), piece(50), piece(7)})
	wantErrno(t, "Salvage", e, api.ErrSize)
	wantNothing(t, "Salvage", r)
	one := packed(spaced(2, numbered(t, 0, 0), numbered(t, api.Number-1, 0)), false)
	wantSame(t, "Rests has no such limit", numbersOf(restsOf(t, one)), []int{0, api.Number - 1})
	_, e = salvage.Salvage([]api.Piece{one})
	wantErrno(t, "Salvage of one piece", e, api.ErrSize)
}

// D4: Salvage against the plainest way, in any order.
func TestSalvageMany(t *testing.T) {
	r := dice(9)
	some := map[string]int{}
	for round := range 150 {
		halves := jumbled(t, r, 30)
		var l []api.Piece
		for range 1 + r.IntN(5) {
			h := slices.Clone(halves[r.IntN(len(halves)/2+1):])
			h = h[:len(h)-r.IntN(len(h)/2+1)]
			spoil(r, h, r.IntN(10))
			l = append(l, packed(h, r.IntN(2) == 0))
		}
		by := map[int][]api.Rest{}
		for _, p := range l {
			for _, rest := range plainRests(p) {
				by[rest.Number] = append(by[rest.Number], rest)
			}
		}
		want := plainMerges(by)
		for i, m := range want {
			want[i] = plainMended(m)
			some[fmt.Sprint(want[i].Sound, want[i].Conflict, m.Sound)]++
		}
		if n := len(want); n > 0 && want[n-1].Number-want[0].Number > salvage.MaxSpan {
			continue
		}
		wantSame(t, fmt.Sprintf("Salvage, round %d", round), salvaged(t, l...), want)
		slices.Reverse(l)
		wantSame(t, "Salvage in another order", salvaged(t, l...), want)
	}
	for _, kind := range []string{"true false true", "true false false", "false false false", "false true false"} {
		if some[kind] < 10 {
			t.Errorf("only %d rests of the kind %s", some[kind], kind)
		}
	}
}

// Z2: pieces and rests are not changed.
func TestNothingIsChanged(t *testing.T) {
	p := packed(jumbled(t, dice(10), 12), true)
	same := copyOf(p)
	salvaged(t, p, p)
	certain(t, p)
	scanned(t, p)
	wantSame(t, "the piece", p, same)
	l := []api.Rest{doubtfulRest(4, numbered(t, 4, 0), 1, 2), doubtfulRest(4, numbered(t, 4, 1), 3), soundRest(numbered(t, 4, 2), 1)}
	copied := slices.Clone(l)
	m := merged(t, l...)
	wantSame(t, "the rests", l, copied)
	n, _ := frame.Number(m.Frame)
	wantSame(t, "the number", n, 4)
}
