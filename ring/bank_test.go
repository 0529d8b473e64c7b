package ring_test

import (
	"math"
	"slices"
	"testing"

	"orangebox/api"
	"orangebox/frame"
	"orangebox/ring"
)

// twoMemories has headed, bad and other sectors, and slots of all states.
func twoMemories(t *testing.T) []api.Memory {
	t.Helper()
	l := []api.Memory{fresh(t, 4, 3, 9), fresh(t, 2, 3, 9)}
	first := l[0].Sectors
	putHead(first[0], 8)
	putSlot(t, first[0], 0, numbered(t, 30, 0), 0)
	putSlot(t, first[0], 1, numbered(t, 31, 0), 15)
	putSlot(t, first[0], 2, numbered(t, 10, 0), 0)
	putHead(first[1], 7)
	putSlot(t, first[1], 1, numbered(t, 20, 0), 0)
	putSlot(t, first[2], 0, numbered(t, 40, 0), 0) // no head
	putHead(first[3], 9)
	putSlot(t, first[3], 0, numbered(t, 50, 0), 0)
	l[0].Bad[3] = true
	second := l[1].Sectors
	putHead(second[0], 2)
	putSlot(t, second[0], 0, numbered(t, 10, 0), 0)
	putHead(second[1], 2)
	spoilt := numbered(t, 60, 0)
	spoilt[9] ^= 1
	putSlot(t, second[1], 2, spoilt, 0)
	return l
}

// C4: all written slots of headed sectors that work, whether their frames are sound or not.
func TestRecover(t *testing.T) {
	l := twoMemories(t)
	before := copyOfAll(l)
	spoilt := numbered(t, 60, 0)
	spoilt[9] ^= 1
	got, e := ring.Recover(l)
	wantErrno(t, "Recover", e, api.OK)
	wantSame(t, "Recover", got, []api.Kept{
		{Memory: 0, Sector: 1, Sequence: 7, Slot: 1, Frame: numbered(t, 20, 0)},
		{Memory: 0, Sector: 0, Sequence: 8, Slot: 0, Frame: numbered(t, 30, 0)},
		{Memory: 0, Sector: 0, Sequence: 8, Slot: 2, Frame: numbered(t, 10, 0)},
		{Memory: 1, Sector: 0, Sequence: 2, Slot: 0, Frame: numbered(t, 10, 0)},
		{Memory: 1, Sector: 1, Sequence: 2, Slot: 2, Frame: spoilt},
	})
	wantSame(t, "argument", l, before)
	got, e = ring.Recover(several(t, 2, 2, 1, 1))
	wantErrno(t, "Recover of new memories", e, api.OK)
	wantNothing(t, "Recover of new memories", got)
}

// C4: sound frames only, each once, by number.
func TestFrames(t *testing.T) {
	l := twoMemories(t)
	wantSame(t, "Frames", numbersOf(t, framesOf(t, l)), []int{10, 20, 30})
	wantNothing(t, "Frames of new memories", framesOf(t, several(t, 2, 2, 1, 1)))
	last := []api.Frame{numbered(t, 0, 0), numbered(t, api.Number-1, 0)}
	putSlot(t, l[0].Sectors[0], 2, last[1], 0)
	putSlot(t, l[1].Sectors[0], 1, last[0], 0)
	wantSame(t, "Frames", numbersOf(t, framesOf(t, l)), []int{0, 10, 20, 30, api.Number - 1})
}

// C4: of sound frames with one number the greatest sequence number counts, then the place in Recover.
func TestFramesWithOneNumber(t *testing.T) {
	sound := func(salt int) api.Frame { return numbered(t, 5, salt) }
	for _, x := range []struct {
		sequences [4]int // two sectors of each of two memories
		want      int
	}{
		{[4]int{1, 2, 3, 4}, 3},
		{[4]int{4, 3, 2, 1}, 0},
		{[4]int{1, 4, 4, 2}, 1},
		{[4]int{2, 2, 2, 2}, 0},
		{[4]int{1, 2, 2, 3}, 3},
		{[4]int{0, 3, 3, 3}, 1},
		{[4]int{1, 1, 7, 7}, 2},
		{[4]int{1, 0, 0, 1}, 0},
	} {
		l := several(t, 2, 2, 2, 1)
		for i, n := range x.sequences {
			s := l[i/2].Sectors[i%2]
			if n > 0 {
				putHead(s, n)
			}
			putSlot(t, s, 0, sound(i), 0)
			putSlot(t, s, 1, sound(i+10), 0) // of equal sequence numbers the earlier slot counts
		}
		wantSame(t, "Frames", framesOf(t, l), []api.Frame{sound(x.want)})
	}
}

// C4: a frame that is not sound does not stand before a sound one.
func TestFramesPassesOverSpoiltOnes(t *testing.T) {
	l := several(t, 1, 2, 2, 1)
	spoilt := numbered(t, 5, 1)
	spoilt[30] ^= 3
	putHead(l[0].Sectors[0], 1)
	putSlot(t, l[0].Sectors[0], 0, numbered(t, 5, 0), 0)
	putHead(l[0].Sectors[1], 2)
	putSlot(t, l[0].Sectors[1], 0, spoilt, 0)
	putSlot(t, l[0].Sectors[1], 1, numbered(t, 6, 0), 0)
	wantSame(t, "Frames", numbersOf(t, framesOf(t, l)), []int{5, 6})
}

// C5: the memories of a frame.
func TestTargets(t *testing.T) {
	for memories := 1; memories <= ring.MaxMemories; memories++ {
		for copies := 1; copies <= memories; copies++ {
			for _, number := range []int{0, 1, 2, 7, 8, 9, 1000, api.Number - 2, api.Number - 1} {
				want := []int{number % memories}
				for len(want) < copies {
					next := want[len(want)-1] + 1
					if next == memories {
						next = 0
					}
					want = append(want, next)
				}
				got, e := ring.Targets(number, memories, copies)
				wantErrno(t, "Targets", e, api.OK)
				wantSame(t, "Targets", got, want)
			}
		}
	}
	wrong := [][3]int{{-1, 1, 1}, {api.Number, 1, 1}, {0, 0, 0}, {0, 0, 1}, {0, 9, 1}, {0, 3, 0}, {0, 3, 4}, {0, 8, 9}}
	for _, n := range beyond() {
		wrong = append(wrong, [3]int{n, 3, 2}, [3]int{5, n, 1}, [3]int{5, n, n}, [3]int{5, 3, n})
	}
	for _, x := range wrong {
		got, e := ring.Targets(x[0], x[1], x[2])
		wantErrno(t, "Targets", e, api.ErrRange)
		wantNothing(t, "Targets", got)
	}
}

// C6: the number by the document's rule.
func TestCapacity(t *testing.T) {
	badOnes := func(m api.Memory, bad ...int) api.Memory {
		m = copyOf(m)
		for _, i := range bad {
			m.Bad[i] = true
		}
		return m
	}
	a, b := fresh(t, 5, 3, 9), fresh(t, 2, 7, 9)
	for _, x := range []struct {
		l            []api.Memory
		copies, want int
	}{
		{[]api.Memory{a}, 1, 12},
		{[]api.Memory{badOnes(a, 4)}, 1, 9},
		{[]api.Memory{badOnes(a, 0, 1, 2)}, 1, 3},
		{[]api.Memory{badOnes(a, 0, 1, 2, 4)}, 1, 0},
		{[]api.Memory{badOnes(a, 0, 1, 2, 3, 4)}, 1, 0},
		{[]api.Memory{a, b}, 1, 14},
		{[]api.Memory{b, a}, 2, 7},
		{[]api.Memory{a, a, b}, 2, 10},
		{[]api.Memory{a, badOnes(a, 1, 2), b}, 2, 9},
		{[]api.Memory{a, a, badOnes(b, 1)}, 1, 0},
		{several(t, 8, ring.MaxSectors, ring.MaxSlots, 1), 1, 63 * 64 * 8},
		{several(t, 8, ring.MaxSectors, ring.MaxSlots, 1), 3, 63 * 64 * 8 / 3},
	} {
		got, e := ring.Capacity(x.l, x.copies)
		wantErrno(t, "Capacity", e, api.OK)
		wantSame(t, "Capacity", got, x.want)
	}
	for _, copies := range append(beyond(), 0, 3) {
		got, e := ring.Capacity([]api.Memory{a, b}, copies)
		wantErrno(t, "Capacity", e, api.ErrRange)
		wantNothing(t, "Capacity", got)
	}
}

// C6: so many of the latest frames are there after each frame that is recorded.
func TestCapacityHolds(t *testing.T) {
	r := dice(4)
	for range 40 {
		var l []api.Memory
		for range 1 + r.IntN(4) {
			m := fresh(t, 2+r.IntN(4), 1+r.IntN(4), 200)
			if r.IntN(2) == 0 {
				m, _ = ring.Damage(m, r.IntN(len(m.Sectors)))
			}
			l = append(l, m)
		}
		copies := 1 + r.IntN(len(l))
		capacity, e := ring.Capacity(l, copies)
		wantErrno(t, "Capacity", e, api.OK)
		x := mounted(t, l, copies)
		first := r.IntN(1000)
		for n := range 60 {
			recorded(t, x, numbered(t, first+n, 0))
			numbers := numbersOf(t, framesOf(t, x.Memories()))
			for k := max(0, n-capacity+1); k <= n; k++ {
				if !slices.Contains(numbers, first+k) {
					t.Fatalf("capacity %d: behind frame %d the frame %d is not there", capacity, first+n, first+k)
				}
			}
		}
	}
}

// C1 to C6: what is read from memories leaves them as they are, and results are the caller's own.
func TestReadersKeepMemories(t *testing.T) {
	l := twoMemories(t)
	before := copyOfAll(l)
	kept, _ := ring.Recover(l)
	clear(kept)
	frames := framesOf(t, l)
	clear(frames)
	_, _ = ring.Capacity(l, 1)
	list, _ := ring.Sectors(l[0])
	clear(list)
	states, _ := ring.States(l[0].Sectors[0])
	clear(states)
	f, _ := ring.SlotFrame(l[0].Sectors[0], 0)
	f[0]++
	_, _, _ = ring.Head(l[0].Sectors[0])
	wantSame(t, "memories", l, before)
	wantSame(t, "Frames", numbersOf(t, framesOf(t, l)), []int{10, 20, 30})
}

// C5: what is recorded lies in the bytes as chapter 1 says.
func TestRecordedBytes(t *testing.T) {
	r := mounted(t, several(t, 1, 2, 2, 3), 1)
	f := numbered(t, api.Number-1, math.MaxInt16)
	recorded(t, r, f)
	s := r.Memories()[0].Sectors[0]
	want := fresh(t, 2, 2, 3).Sectors[0]
	copy(want, []byte{79, 66, 0, 0, 0, 1, 255, 255, 255, 254})
	b, _ := frame.ToBytes(f)
	copy(want[16:], b)
	want[16+96] = 0
	wantSame(t, "sector", s, want)
}
