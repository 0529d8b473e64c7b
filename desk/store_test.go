package desk_test

import (
	"fmt"
	"math/rand/v2"
	"slices"
	"testing"

	"orangebox/api"
	"orangebox/desk"
	"orangebox/ring"
	"orangebox/salvage"
)

// Steps of power: to begin a sector it is erased, and ten bytes of its head are written; a frame has 96 bytes and a mark.
const (
	openSteps  = 11
	frameSteps = 97
)

// someFrames are sound frames with numbers from one on.
func someFrames(t *testing.T, first, count int) []api.Frame {
	t.Helper()
	supers := (count + 15) / 16
	l := recorded(t, someCase(t), first, many(supers, func(i int) []int { return superValues(16*i, i%3) })...)
	return l[:count]
}

func wantStore(t *testing.T, name string, l []api.Frame, m []api.Memory, copies, power, written, left int) []api.Memory {
	t.Helper()
	after, n, p, e := desk.Store(l, m, copies, power)
	wantErrno(t, name, e, api.OK)
	wantSame(t, name+": frames", n, written)
	wantSame(t, name+": power", p, left)
	return after
}

// J2: frames are written as long as power lasts, and that is told.
func TestStore(t *testing.T) {
	m := []api.Memory{memory(t, 3, 2)}
	l := someFrames(t, 0, 5)
	all := 3*openSteps + 5*frameSteps
	for _, c := range []struct{ frames, power, written, left int }{
		{5, all, 5, 0}, {5, all + 7, 5, 7}, {5, all - 1, 4, 0}, {5, ring.MaxPower, 5, ring.MaxPower - all},
		{5, 0, 0, 0}, {5, 1, 0, 0}, {5, openSteps + frameSteps, 1, 0}, {1, openSteps + frameSteps, 1, 0}, {5, openSteps + frameSteps - 1, 0, 0},
		{2, openSteps + 2*frameSteps + 1, 2, 1}, {3, openSteps + 2*frameSteps + 1, 2, 0}, {0, 5, 0, 5}, {0, 0, 0, 0},
	} {
		after := wantStore(t, fmt.Sprint(c), l[:c.frames], m, 1, c.power, c.written, c.left)
		found, e := ring.Frames(after)
		wantErrno(t, "Frames", e, api.OK)
		wantSame(t, fmt.Sprint(c, ": what is there"), found, l[:c.written])
	}
}

// J2: what is stored goes on behind what was there, and is what a recorder makes of it.
func TestStoreGoesOn(t *testing.T) {
	r := dice(1)
	stopped := 0
	for range 200 {
		count := 1 + r.IntN(4)
		m := many(count, func(int) api.Memory { return memory(t, 2+r.IntN(3), 1+r.IntN(4)) })
		copies := 1 + r.IntN(count)
		for first := 0; first < 32; first += 16 {
			l := someFrames(t, first, r.IntN(17))
			power := pick(r, ring.MaxPower, r.IntN(4000))
			x, e := ring.Mount(m, copies)
			wantErrno(t, "Mount", e, api.OK)
			left, written := power, 0
			for _, f := range l {
				var whole bool
				left, whole, e = x.Record(f, left)
				wantErrno(t, "Record", e, api.OK)
				if !whole {
					stopped++
					break
				}
				written++
			}
			m = wantStore(t, "Store", l, m, copies, power, written, left)
			wantSame(t, "memories", m, x.Memories())
		}
	}
	if stopped < 50 {
		t.Errorf("power failed %d times", stopped)
	}
}

// J2: the errors of Store, the first one that is met; when power has failed, nothing more is asked.
func TestStoreErrors(t *testing.T) {
	type asked struct {
		l             []api.Frame
		m             []api.Memory
		copies, power int
	}
	base := func() asked {
		return asked{someFrames(t, 0, 4), []api.Memory{memory(t, 2, 3), memory(t, 2, 3)}, 2, ring.MaxPower}
	}
	store := func(x asked) []any { return results(desk.Store(x.l, x.m, x.copies, x.power)) }
	wantInOrder(t, "Store", base, store, []fault[asked]{
		{"many frames", func(x *asked) { x.l = make([]api.Frame, 16*desk.MaxSupers+1) }, api.ErrSize},
		{"a wrong memory", func(x *asked) { x.m[1].Wear = nil }, api.ErrForm},
		{"many copies", func(x *asked) { x.copies = 3 }, api.ErrRange},
		{"no copies", func(x *asked) { x.copies = 0 }, api.ErrRange},
		{"a frozen memory", func(x *asked) { x.m = frozen(t, x.m) }, api.ErrState},
		{"much power", func(x *asked) { x.power = ring.MaxPower + 1 }, api.ErrRange},
		{"a negative power", func(x *asked) { x.power = -1 }, api.ErrRange},
		{"a frame that is not sound", func(x *asked) { x.l[1][7] ^= 1 }, api.ErrForm},
		{"a worn memory", func(x *asked) { x.m[0].Wear, x.m[0].Limit = []int{1, 0}, 1 }, api.ErrNone},
	})
	x := base()
	x.l[2] = api.Frame{}
	wantStore(t, "behind the power", x.l, x.m, 1, openSteps+frameSteps+5, 1, 0)
	for _, b := range beyond() {
		wantWrong(t, fmt.Sprint("copies ", b), results(desk.Store(x.l, x.m, b, 5)), api.ErrRange)
		wantWrong(t, fmt.Sprint("power ", b), results(desk.Store(x.l, x.m, 1, b)), api.ErrRange)
	}
	wantWrong(t, "no memories", results(desk.Store(x.l, nil, 1, 5)), api.ErrSize)
	wantWrong(t, "many memories", results(desk.Store(x.l, many(9, func(int) api.Memory { return x.m[0] }), 1, 5)), api.ErrSize)
	most := slices.Repeat(someFrames(t, 0, 16), desk.MaxSupers)
	wantStore(t, "as many frames as can be", most, x.m, 1, openSteps+frameSteps, 1, 0)
}

// frozen is memories whose sectors are frozen where a recorder stands.
func frozen(t *testing.T, m []api.Memory) []api.Memory {
	t.Helper()
	x, e := ring.Mount(stored(t, someFrames(t, 64, 2), 1, m...), 1)
	wantErrno(t, "Mount", e, api.OK)
	_, _, e = x.Freeze(ring.MaxPower)
	wantErrno(t, "Freeze", e, api.OK)
	return x.Memories()
}

// halvesOf returns the halves of a piece.
func halvesOf(p api.Piece) []int {
	var h []int
	for _, b := range p.Bytes {
		h = append(h, int(b/16), int(b%16))
	}
	if p.Half {
		h = h[1:]
	}
	return h
}

// J2: pieces are those of salvage without flips and losses.
func TestCrash(t *testing.T) {
	m := stored(t, someFrames(t, 0, 6), 2, memory(t, 2, 2), memory(t, 3, 1))
	for _, cuts := range [][]int{nil, {0}, {1}, {2, 2, 33}, {5, 6, 7, 8}, {100, 1517}} {
		want, e := salvage.Pieces(m, cuts)
		wantErrno(t, "Pieces", e, api.OK)
		wantSame(t, fmt.Sprint("cut ", cuts), crashed(t, m, cuts, nil), want)
		for i := range want {
			wantSame(t, fmt.Sprint("cut ", cuts, " without ", i), crashed(t, m, cuts, []int{i}), slices.Delete(slices.Clone(want), i, i+1))
		}
		none := crashed(t, m, cuts, many(len(want), func(i int) int { return len(want) - 1 - i }))
		wantSame(t, fmt.Sprint("cut ", cuts, ", all lost"), none, []api.Piece{})
	}
	l := crashed(t, m, []int{10, 20, 30, 40}, []int{3, 0, 2})
	want, _ := salvage.Pieces(m, []int{10, 20, 30, 40})
	wantSame(t, "three are lost", l, []api.Piece{want[1], want[4]})
}

func someFlips(r *rand.Rand, l []api.Piece) []api.Flip {
	return many(r.IntN(20), func(int) api.Flip {
		piece := r.IntN(len(l))
		halves := len(halvesOf(l[piece]))
		half := pick(r, 0, halves-1, r.IntN(halves))
		return api.Flip{Piece: piece, Half: half, Bits: 1 + r.IntN(15)}
	})
}

// J2: each flip changes its bits of its half, and nothing else, in pieces of whole and of half bytes, and one behind the other.
func TestFlips(t *testing.T) {
	r := dice(2)
	m := stored(t, someFrames(t, 0, 6), 1, memory(t, 2, 2), memory(t, 2, 1))
	for range 500 {
		cuts := many(r.IntN(5), func(int) int { return r.IntN(100) })
		slices.Sort(cuts)
		pieces := crashed(t, m, cuts, nil)
		var want [][]int
		for _, p := range pieces {
			want = append(want, halvesOf(p))
		}
		flips := someFlips(r, pieces)
		for _, f := range flips {
			want[f.Piece][f.Half] ^= f.Bits
		}
		lost := r.Perm(len(pieces))[:r.IntN(len(pieces))]
		got := crashed(t, m, cuts, lost, flips...)
		for i, p := range pieces {
			if slices.Contains(lost, i) {
				continue
			}
			wantSame(t, "Half", got[0].Half, p.Half)
			wantSame(t, fmt.Sprint("halves of ", i, " with ", flips), halvesOf(got[0]), want[i])
			if got[0].Half {
				wantSame(t, "the half that is not there", got[0].Bytes[0]>>4, byte(0))
			}
			got = got[1:]
		}
		wantSame(t, "further pieces", len(got), 0)
	}
	cut := crashed(t, m, []int{3}, nil, api.Flip{Half: 3, Bits: 9}, api.Flip{Half: 0, Bits: 8})
	wantSame(t, "the half behind a cut", halvesOf(cut[0])[3], 9)
	wantSame(t, "the first half", halvesOf(cut[0])[0], halvesOf(crashed(t, m, nil, nil)[0])[0]^8)
	twice := many(desk.MaxFlips, func(i int) api.Flip { return api.Flip{Half: i % 10, Bits: 15} })
	wantSame(t, "each half a hundred times", crashed(t, m, nil, nil, twice...), crashed(t, m, nil, nil))
}

// J2: the errors of Crash in their order.
func TestCrashErrors(t *testing.T) {
	type asked struct {
		m          []api.Memory
		cuts, lost []int
		flips      []api.Flip
	}
	good := api.Flip{Piece: 1, Half: 9, Bits: 15}
	base := func() asked {
		return asked{[]api.Memory{memory(t, 2, 1)}, []int{10, 20}, []int{2, 0}, []api.Flip{good, {Bits: 1}}}
	}
	flipped := func(piece, half, bits int) func(*asked) {
		return func(x *asked) { x.flips[0] = api.Flip{Piece: piece, Half: half, Bits: bits} }
	}
	l := []fault[asked]{
		{"no memories", func(x *asked) { x.m = nil }, api.ErrSize},
		{"a wrong memory", func(x *asked) { x.m[0].Bad = nil }, api.ErrForm},
		{"many cuts", func(x *asked) { x.cuts = make([]int, salvage.MaxPieces) }, api.ErrSize},
		{"cuts out of order", func(x *asked) { x.cuts = []int{20, 10} }, api.ErrOrder},
		{"many flips", func(x *asked) { x.flips = make([]api.Flip, desk.MaxFlips+1) }, api.ErrSize},
		{"a piece that is not there", flipped(3, 0, 1), api.ErrRange},
		{"a negative piece", flipped(-1, 0, 1), api.ErrRange},
		{"a half that is not there", flipped(1, 10, 1), api.ErrRange},
		{"a negative half", flipped(1, -1, 1), api.ErrRange},
		{"no bits", flipped(1, 0, 0), api.ErrRange},
		{"five bits", flipped(1, 0, 16), api.ErrRange},
		{"another flip", func(x *asked) { x.flips[1].Piece = 3 }, api.ErrRange},
		{"a lost piece that is not there", func(x *asked) { x.lost[0] = 3 }, api.ErrRange},
		{"a negative lost piece", func(x *asked) { x.lost[0] = -1 }, api.ErrRange},
		{"a piece lost twice", func(x *asked) { x.lost = []int{2, 0, 2, 7} }, api.ErrTwice},
		{"a later piece that is not there", func(x *asked) { x.lost[1] = 3 }, api.ErrRange},
	}
	crash := func(x asked) []any { return results(desk.Crash(x.m, x.cuts, x.lost, x.flips)) }
	wantInOrder(t, "Crash", base, crash, l)
	for _, b := range beyond() {
		for _, f := range []api.Flip{{Piece: b, Bits: 1}, {Half: b, Bits: 1}, {Bits: b}, {Piece: 1, Half: b, Bits: 1}} {
			x := base()
			x.flips = []api.Flip{f}
			wantWrong(t, fmt.Sprint(f), crash(x), api.ErrRange)
		}
		x := base()
		x.lost = []int{b}
		wantWrong(t, fmt.Sprint("lose ", b), crash(x), api.ErrRange)
	}
	x := base()
	x.cuts = []int{3}
	for half, want := range map[int]api.Errno{3: api.OK, 4: api.ErrRange} { // with the one behind the cut
		_, e := desk.Crash(x.m, x.cuts, nil, []api.Flip{{Half: half, Bits: 1}})
		wantErrno(t, fmt.Sprint("the half ", half, " of three"), e, want)
	}
	wantWrong(t, "a half behind half a byte", results(desk.Crash(x.m, []int{3, 10}, nil, []api.Flip{{Piece: 1, Half: 7, Bits: 1}})), api.ErrRange)
}
