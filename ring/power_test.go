package ring_test

import (
	"bytes"
	"math/rand/v2"
	"slices"
	"testing"

	"orangebox/api"
	"orangebox/frame"
	"orangebox/ring"
)

// step is a byte that is written, or, if at is -1, an erasure of a sector; number is the frame for which it is done.
type step struct {
	memory, sector, at int
	b                  byte
	number             int
	last               bool // of its frame in this memory
}

// do does a step, or, if power fails in it, a part of it.
func (s step) do(l []api.Memory, whole bool) {
	sector := l[s.memory].Sectors[s.sector]
	switch {
	case s.at < 0:
		l[s.memory].Wear[s.sector]++
		n := len(sector)
		if !whole {
			n /= 2
		}
		copy(sector, bytes.Repeat([]byte{255}, n))
	case whole:
		sector[s.at] &= s.b
	default:
		sector[s.at] &= s.b | 15
	}
}

// slowTries returns the sectors that are tried, from the first one on.
func slowTries(m api.Memory, from int) []int {
	var l []int
	for i := from + 1; i < len(m.Sectors); i++ {
		l = append(l, i)
	}
	for i := 0; i <= from; i++ {
		l = append(l, i)
	}
	return slices.DeleteFunc(l, func(i int) bool { return m.Bad[i] || m.Wear[i] >= m.Limit })
}

// slowPlace finds where a frame goes in a memory by its bytes alone; open says that the sector must be opened first.
func slowPlace(m api.Memory) (sector, slot int, open bool) {
	sector, most := -1, 0
	for i, s := range m.Sectors {
		n, _, ok := ring.Head(s)
		if ok && !m.Bad[i] && n >= most {
			sector, most = i, n
		}
	}
	if sector >= 0 {
		states, _ := ring.States(m.Sectors[sector])
		for slot = len(states); slot > 0 && states[slot-1] == api.SlotFree; {
			slot--
		}
		if slot < len(states) {
			return sector, slot, false
		}
	}
	return slowTries(m, sector)[0], 0, true
}

// plan lists the steps of recording frames with all power. It changes the memories.
func plan(t *testing.T, l []api.Memory, copies int, frames []api.Frame) []step {
	t.Helper()
	var steps []step
	add := func(s step) {
		steps = append(steps, s)
		s.do(l, true)
	}
	for _, f := range frames {
		number, _ := frame.Number(f)
		for c := range copies {
			i := (number + c) % len(l)
			sector, slot, open := slowPlace(l[i])
			if open {
				add(step{memory: i, sector: sector, at: -1, number: number})
				sequence := 0
				for _, s := range l[i].Sectors {
					n, _, _ := ring.Head(s)
					sequence = max(sequence, n)
				}
				head := make([]byte, 10)
				putHead(head, sequence+1)
				for at, b := range head {
					add(step{memory: i, sector: sector, at: at, b: b, number: number})
				}
			}
			b, e := frame.ToBytes(f)
			wantErrno(t, "frame.ToBytes", e, api.OK)
			for k, x := range append(b, 0) {
				add(step{memory: i, sector: sector, at: 16 + 97*slot + k, b: x, number: number, last: k == 96})
			}
		}
	}
	return steps
}

// someMemories is new memories of some sizes, some of whose sectors do not work.
func someMemories(t *testing.T, r *rand.Rand) []api.Memory {
	t.Helper()
	var l []api.Memory
	for range 1 + r.IntN(3) {
		m := fresh(t, 2+r.IntN(3), 1+r.IntN(3), 30)
		if len(m.Sectors) > 2 && r.IntN(3) == 0 {
			m, _ = ring.Damage(m, r.IntN(len(m.Sectors)))
		}
		l = append(l, m)
	}
	return l
}

// recordAll records frames until power fails, and returns how many were written in all their targets.
func recordAll(t *testing.T, r *ring.Recorder, frames []api.Frame, power int) int {
	t.Helper()
	for i, f := range frames {
		left, done, e := r.Record(f, power)
		wantErrno(t, "Record", e, api.OK)
		if !done {
			return i
		}
		power = left
	}
	return len(frames)
}

// C2, C5: power that fails at any step leaves what the document tells, byte for byte.
func TestPowerFailsAtEachStep(t *testing.T) {
	for seed := range uint64(6) {
		r := dice(seed)
		start := someMemories(t, r)
		copies := 1 + r.IntN(len(start))
		frames := run(t, r.IntN(5000), 7)
		steps := plan(t, copyOfAll(start), copies, frames)
		want := copyOfAll(start)
		for power := range len(steps) + 1 {
			x := mounted(t, start, copies)
			recordAll(t, x, frames, power)
			torn := copyOfAll(want)
			if power < len(steps) {
				steps[power].do(torn, false)
				steps[power].do(want, true)
			}
			wantSame(t, "memories", x.Memories(), torn)
			if t.Failed() {
				t.Fatalf("seed %d, power %d of %d", seed, power, len(steps))
			}
		}
	}
}

// survivors counts the steps up to a failure: which frames must be there, by memory and sector.
func survivors(steps []step, power int) []int {
	type place struct{ memory, sector int }
	there := map[place][]int{}
	for i, s := range steps[:min(power+1, len(steps))] {
		p := place{s.memory, s.sector}
		switch {
		case s.at < 0: // also a torn one
			delete(there, p)
		case s.last && i < power:
			there[p] = append(there[p], s.number)
		}
	}
	var l []int
	for _, numbers := range there {
		l = append(l, numbers...)
	}
	slices.Sort(l)
	return slices.Compact(l)
}

// C4 to C6: behind a failure all frames are there whose sectors were not erased since, perhaps the one that was being written, and none else; a recorder goes on behind them.
func TestWhatFollows(t *testing.T) {
	for seed := range uint64(5) {
		r := dice(100 + seed)
		start := someMemories(t, r)
		copies := 1 + r.IntN(len(start))
		first := r.IntN(5000)
		frames := run(t, first, 12)
		steps := plan(t, copyOfAll(start), copies, frames)
		for power := 0; power <= len(steps); power += 1 + r.IntN(3) {
			x := mounted(t, start, copies)
			whole := recordAll(t, x, frames, power)
			n, ok := x.Last()
			wantSame(t, "Last", []any{n, ok}, []any{max(first+whole-1, 0) * min(whole, 1), whole > 0})
			l := x.Memories()
			want := survivors(steps, power)
			got := numbersOf(t, framesOf(t, l))
			spare := slices.DeleteFunc(slices.Clone(got), func(n int) bool { return n == first+whole && !slices.Contains(want, n) })
			if !slices.Equal(spare, want) {
				t.Fatalf("seed %d, power %d: %v are there, want %v", seed, power, got, want)
			}
			goesOn(t, l, copies, first+whole)
		}
	}
}

// goesOn records further frames, from a number on: what was there stays until its sector is erased.
func goesOn(t *testing.T, l []api.Memory, copies, number int) {
	t.Helper()
	x := mounted(t, l, copies)
	frames := run(t, number, 3)
	steps := plan(t, copyOfAll(l), copies, frames)
	for i, f := range frames {
		recorded(t, x, f)
		there := numbersOf(t, framesOf(t, x.Memories()))
		if !slices.Contains(there, number+i) {
			t.Fatalf("the frame %d is not there", number+i)
		}
	}
	erased := map[[2]int]bool{}
	for _, s := range steps {
		if s.at < 0 {
			erased[[2]int{s.memory, s.sector}] = true
		}
	}
	before, _ := ring.Recover(l)
	after, _ := ring.Recover(x.Memories())
	for _, k := range before {
		if !erased[[2]int{k.Memory, k.Sector}] && !slices.Contains(after, k) {
			t.Fatalf("the frame in slot %d of sector %d of memory %d is gone", k.Slot, k.Sector, k.Memory)
		}
	}
}

// C5: a recorder goes on through many failures, and what it has written whole in the latest sector is there.
func TestManyFailures(t *testing.T) {
	r := dice(9)
	for range 30 {
		l := someMemories(t, r)
		for i := range l {
			l[i].Limit = ring.MaxLimit
		}
		copies := 1 + r.IntN(len(l))
		capacity, _ := ring.Capacity(l, copies)
		number := 0
		for range 25 {
			x := mounted(t, l, copies)
			whole := recordAll(t, x, run(t, number, 3), r.IntN(500))
			l = x.Memories()
			number += whole
			there := numbersOf(t, framesOf(t, l))
			if whole > 0 && capacity > 0 && !slices.Contains(there, number-1) {
				t.Fatalf("the frame %d is not there", number-1)
			}
			if len(there) > 0 && there[len(there)-1] > number {
				t.Fatalf("the frame %d is there, the next one is %d", there[len(there)-1], number)
			}
		}
	}
}
