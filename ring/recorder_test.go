package ring_test

import (
	"testing"

	"orangebox/api"
	"orangebox/ring"
)

// filled is one memory with a headed sector for each sequence number (0: none), all of whose slots are written.
func filled(t *testing.T, slots int, sequences ...int) api.Memory {
	t.Helper()
	m := fresh(t, len(sequences), slots, 9)
	for i, n := range sequences {
		if n == 0 {
			continue
		}
		putHead(m.Sectors[i], n)
		for k := range slots {
			putSlot(t, m.Sectors[i], k, numbered(t, (100*n+k)%api.Number, 0), 0)
		}
	}
	return m
}

// newest records a frame and returns the sector and the slot into which it came, and the sector's sequence number.
func newest(t *testing.T, m api.Memory) [3]int {
	t.Helper()
	r := mounted(t, []api.Memory{m}, 1)
	f := numbered(t, 7, 3)
	recorded(t, r, f)
	kept, e := ring.Recover(r.Memories())
	wantErrno(t, "Recover", e, api.OK)
	for _, k := range kept {
		if k.Frame == f {
			return [3]int{k.Sector, k.Slot, k.Sequence}
		}
	}
	t.Fatal("the frame is not there")
	return [3]int{}
}

// C5: copies beyond their range.
func TestMountErrors(t *testing.T) {
	l := several(t, 3, 2, 1, 1)
	for _, copies := range append(beyond(), 0, 4) {
		r, e := ring.Mount(l, copies)
		wantErrno(t, "Mount", e, api.ErrRange)
		wantNothing(t, "Mount", r)
	}
	for copies := 1; copies <= 3; copies++ {
		mounted(t, l, copies)
	}
}

// C5: a recorder has memories of its own, and gives copies away.
func TestRecorderCopiesMemories(t *testing.T) {
	l := several(t, 2, 3, 2, 5)
	before := copyOfAll(l)
	r := mounted(t, l, 2)
	wantSame(t, "Memories", r.Memories(), before)
	recorded(t, r, run(t, 0, 3)...)
	wantSame(t, "argument", l, before)
	want := r.Memories()
	for _, m := range append(l, r.Memories()...) {
		clear(m.Sectors[0])
		_ = append(m.Sectors[0], 1)
		m.Wear[0], m.Bad[1] = 4, true
		m.Sectors[1] = nil
	}
	wantSame(t, "Memories", r.Memories(), want)
	wantSame(t, "Frames", numbersOf(t, framesOf(t, r.Memories())), []int{0, 1, 2})
}

// C5: where a recorder stands, and where it goes on.
func TestMountStands(t *testing.T) {
	at := func(m api.Memory, change func(m api.Memory)) api.Memory {
		change(m)
		return m
	}
	empty := func(m api.Memory, sector, slot int) {
		copy(m.Sectors[sector][16+97*slot:], fresh(t, 2, 1, 1).Sectors[0][:97])
	}
	for _, x := range []struct {
		name string
		m    api.Memory
		want [3]int
	}{
		{"new", fresh(t, 3, 2, 5), [3]int{0, 0, 1}},
		{"full", filled(t, 2, 1, 2, 3), [3]int{0, 0, 4}},
		{"full, and the next one is new", filled(t, 2, 5, 0, 0), [3]int{1, 0, 6}},
		{"full in the middle", filled(t, 2, 2, 3, 1), [3]int{2, 0, 4}},
		{"one slot left", at(filled(t, 2, 2, 3, 1), func(m api.Memory) { empty(m, 1, 1) }), [3]int{1, 1, 3}},
		{"all slots left", at(filled(t, 2, 2, 3, 1), func(m api.Memory) { empty(m, 1, 0); empty(m, 1, 1) }), [3]int{1, 0, 3}},
		{"a free slot that is behind", at(filled(t, 3, 2, 3, 1), func(m api.Memory) { empty(m, 1, 0); empty(m, 1, 2) }), [3]int{1, 2, 3}},
		{"a torn slot", at(filled(t, 3, 2, 3, 1), func(m api.Memory) {
			empty(m, 1, 1)
			empty(m, 1, 2)
			m.Sectors[1][16+97+40] = 254
		}), [3]int{1, 2, 3}},
		{"of equal sequence numbers the last sector", at(filled(t, 2, 3, 3, 1), func(m api.Memory) { empty(m, 0, 1); empty(m, 1, 1) }), [3]int{1, 1, 3}},
		{"the greatest one is bad", at(filled(t, 2, 7, 3, 2), func(m api.Memory) {
			empty(m, 0, 1)
			empty(m, 1, 1)
			m.Bad[0] = true
		}), [3]int{1, 1, 3}},
		{"the greatest one is bad, and counts", at(filled(t, 2, 7, 3, 2), func(m api.Memory) { m.Bad[0] = true }), [3]int{2, 0, 8}},
		{"no head, but slots", at(filled(t, 1, 1, 0), func(m api.Memory) { m.Sectors[0][0] = 0 }), [3]int{0, 0, 1}},
		{"passes over bad ones", at(filled(t, 1, 2, 3, 4, 1), func(m api.Memory) { m.Bad[3], m.Bad[0] = true, true }), [3]int{1, 0, 5}},
		{"passes over worn ones", at(filled(t, 1, 2, 4, 3, 1), func(m api.Memory) { m.Wear[2], m.Wear[3] = 9, 9 }), [3]int{0, 0, 5}},
		{"none but its own", at(filled(t, 1, 2, 3, 4), func(m api.Memory) { m.Wear[0], m.Bad[1] = 9, true }), [3]int{2, 0, 4}},
		{"what is erased does not count", at(filled(t, 1, ring.MaxSequence, 0), func(m api.Memory) { m.Bad[1] = true }), [3]int{0, 0, 1}},
		{"the last number", filled(t, 1, ring.MaxSequence-1, 0), [3]int{1, 0, ring.MaxSequence}},
		{"none headed, the first ones do not work", at(fresh(t, 4, 1, 9), func(m api.Memory) { m.Bad[0], m.Wear[1] = true, 9 }), [3]int{2, 0, 1}},
		{"a bad one is headed, none else", at(filled(t, 1, 0, 6, 0), func(m api.Memory) { m.Bad[1] = true }), [3]int{0, 0, 7}},
		{"its own is worn, with room", at(filled(t, 2, 1, 2), func(m api.Memory) { empty(m, 1, 1); m.Wear[0], m.Wear[1] = 9, 9 }), [3]int{1, 1, 2}},
	} {
		wantSame(t, x.name, newest(t, x.m), x.want)
	}
}

// C5: each erasure wears, and no sector is worn beyond the limit.
func TestWear(t *testing.T) {
	r := mounted(t, several(t, 1, 3, 2, 2), 1)
	want := [][]int{{1, 0, 0}, {1, 1, 0}, {1, 1, 1}, {2, 1, 1}, {2, 2, 1}, {2, 2, 2}}
	for i, wear := range want {
		recorded(t, r, run(t, 2*i, 2)...)
		wantSame(t, "wear", r.Memories()[0].Wear, wear)
	}
	before := r.Memories()
	for range 2 {
		left, done, e := r.Record(numbered(t, 12, 0), ring.MaxPower)
		wantErrno(t, "Record", e, api.ErrNone)
		wantNothing(t, "Record", left, done)
		wantSame(t, "memories", r.Memories(), before)
	}
	n, ok := r.Last()
	wantSame(t, "Last", []any{n, ok}, []any{11, true})
	_, done, e := r.Freeze(9)
	wantSame(t, "Freeze of a worn one", []any{done, e}, []any{true, api.OK})
}

// C5: each frame comes into its targets, and into no other memory.
func TestRecordTargets(t *testing.T) {
	for copies := 1; copies <= 3; copies++ {
		r := mounted(t, several(t, 3, 3, 4, 5), copies)
		held := map[int][]int{} // the memories of each number
		for n := 20; n < 26; n++ {
			recorded(t, r, numbered(t, n, 0))
			held[n], _ = ring.Targets(n, 3, copies)
		}
		kept, _ := ring.Recover(r.Memories())
		if len(kept) != 6*copies {
			t.Errorf("%d frames are kept in %d copies", len(kept), copies)
		}
		for n, memories := range held {
			for _, i := range memories {
				found := false
				for _, k := range kept {
					found = found || k.Memory == i && k.Frame == numbered(t, n, 0)
				}
				if !found {
					t.Errorf("the frame %d is not in memory %d", n, i)
				}
			}
		}
	}
}

// C5: frames that are not sound are not recorded.
func TestRecordForm(t *testing.T) {
	r := mounted(t, several(t, 1, 2, 1, 1), 1)
	before := r.Memories()
	parity, wide := numbered(t, 5, 0), numbered(t, 5, 0)
	parity[40] ^= 2048
	wide[40] |= 4096
	for _, f := range []api.Frame{{}, parity, wide} {
		left, done, e := r.Record(f, 1000)
		wantErrno(t, "Record", e, api.ErrForm)
		wantNothing(t, "Record", left, done)
	}
	wantSame(t, "memories", r.Memories(), before)
	n, ok := r.Last()
	wantNothing(t, "Last", n, ok)
}

// C5: errors in their order, ahead of the first step.
func TestRecordErrors(t *testing.T) {
	sound, spoilt := numbered(t, 4, 0), api.Frame{}
	worn := func() api.Memory {
		m := filled(t, 1, 3, 2)
		m.Wear[0], m.Bad[1] = 9, true
		return m
	}
	last := filled(t, 1, ring.MaxSequence, 1)
	for _, x := range []struct {
		name  string
		l     []api.Memory
		f     api.Frame
		power int
		want  api.Errno
	}{
		{"power ahead of form", []api.Memory{worn()}, spoilt, -1, api.ErrRange},
		{"too much power", []api.Memory{worn()}, spoilt, ring.MaxPower + 1, api.ErrRange},
		{"form ahead of sectors", []api.Memory{worn()}, spoilt, 0, api.ErrForm},
		{"no sector", []api.Memory{worn()}, sound, 0, api.ErrNone},
		{"no sector in the second target", []api.Memory{filled(t, 1, 1, 2), worn()}, sound, 500, api.ErrNone},
		{"no number in the second target", []api.Memory{filled(t, 1, 1, 2), last}, sound, 500, api.ErrSize},
		{"no sector ahead of no number", []api.Memory{last, worn()}, sound, 500, api.ErrNone},
	} {
		r := mounted(t, x.l, len(x.l))
		before := r.Memories()
		left, done, e := r.Record(x.f, x.power)
		wantErrno(t, x.name, e, x.want)
		wantNothing(t, x.name, left, done)
		wantSame(t, x.name, r.Memories(), before)
	}
	r := mounted(t, []api.Memory{fresh(t, 2, 1, 1), worn()}, 1)
	_, _, e := r.Record(numbered(t, 5, 0), 500)
	wantErrno(t, "into the worn one", e, api.ErrNone)
	recorded(t, r, sound) // the worn one is no target
}

// C5: a sequence number is asked for only where a sector is opened.
func TestRecordAtLastSequence(t *testing.T) {
	m := fresh(t, 2, 2, 9)
	putHead(m.Sectors[1], ring.MaxSequence)
	r := mounted(t, []api.Memory{m}, 1)
	recorded(t, r, run(t, 0, 2)...)
	_, _, e := r.Record(numbered(t, 2, 0), 500)
	wantErrno(t, "Record", e, api.ErrSize)
	wantSame(t, "Frames", numbersOf(t, framesOf(t, r.Memories())), []int{0, 1})
}

// C5: a step for the erasure, ten for the head, 96 for the frame and one for the mark.
func TestRecordSteps(t *testing.T) {
	r := mounted(t, several(t, 2, 2, 2, 9), 2)
	for i, steps := range []int{216, 194, 216, 194, 216} {
		left, done, e := r.Record(numbered(t, i, 0), steps+i)
		wantSame(t, "Record", []any{left, done, e}, []any{i, true, api.OK})
	}
	left, done, e := r.Record(numbered(t, 5, 0), 193)
	wantSame(t, "Record", []any{left, done, e}, []any{0, false, api.OK})
}

// C5: behind a failure of power all calls fail; Last tells the last frame that was whole.
func TestStopped(t *testing.T) {
	r := mounted(t, several(t, 1, 2, 2, 9), 1)
	n, ok := r.Last()
	wantNothing(t, "Last", n, ok)
	recorded(t, r, numbered(t, 0, 0))
	n, ok = r.Last()
	wantSame(t, "Last", []any{n, ok}, []any{0, true})
	_, done, e := r.Record(numbered(t, 1, 0), 96)
	wantSame(t, "Record", []any{done, e}, []any{false, api.OK})
	before := r.Memories()
	for _, power := range []int{0, 1000, -1} {
		for _, f := range []api.Frame{{}, numbered(t, 2, 0)} {
			left, done, e := r.Record(f, power)
			wantErrno(t, "Record", e, api.ErrPower)
			wantNothing(t, "Record", left, done)
		}
		left, done, e := r.Freeze(power)
		wantErrno(t, "Freeze", e, api.ErrPower)
		wantNothing(t, "Freeze", left, done)
	}
	wantSame(t, "memories", r.Memories(), before)
	n, ok = r.Last()
	wantSame(t, "Last", []any{n, ok}, []any{0, true})
}

// C5: Freeze writes one byte where the recorder stands, in each memory.
func TestFreeze(t *testing.T) {
	l := []api.Memory{filled(t, 1, 1, 2), fresh(t, 2, 1, 9), filled(t, 1, 6, 4)}
	for power := range 5 {
		r := mounted(t, l, 1)
		want := copyOfAll(l)
		first, second := want[0].Sectors[1], want[2].Sectors[0]
		first[10] = 15
		if power > 0 {
			first[10], second[10] = 0, 15
		}
		if power > 1 {
			second[10] = 0
		}
		left, done, e := r.Freeze(power)
		wantSame(t, "Freeze", []any{left, done, e}, []any{max(power-2, 0), power >= 2, api.OK})
		wantSame(t, "memories", r.Memories(), want)
		stopped := api.ErrPower
		if power >= 2 {
			stopped = api.ErrState
		}
		left, done, e = r.Freeze(-1)
		wantErrno(t, "Freeze again", e, stopped)
		wantNothing(t, "Freeze again", left, done)
		left, done, e = r.Record(api.Frame{}, -1)
		wantErrno(t, "Record", e, stopped)
		wantNothing(t, "Record", left, done)
		wantSame(t, "memories", r.Memories(), want)
	}
}

// C5: a recorder that stands at no sector writes nothing, and is frozen.
func TestFreezeNew(t *testing.T) {
	r := mounted(t, several(t, 2, 2, 1, 9), 2)
	for _, power := range append(beyond(), ring.MaxPower+1) {
		left, done, e := r.Freeze(power)
		wantErrno(t, "Freeze", e, api.ErrRange)
		wantNothing(t, "Freeze", left, done)
	}
	left, done, e := r.Freeze(0)
	wantSame(t, "Freeze", []any{left, done, e}, []any{0, true, api.OK})
	_, _, e = r.Record(numbered(t, 1, 0), 500)
	wantErrno(t, "Record", e, api.ErrState)
	wantSame(t, "memories", r.Memories(), several(t, 2, 2, 1, 9))
	recorded(t, mounted(t, r.Memories(), 2), numbered(t, 1, 0)) // nothing says that it was frozen
}

// C5: a recorder that is mounted is frozen if one of the sectors at which it stands is.
func TestMountFrozen(t *testing.T) {
	for _, x := range []struct {
		name   string
		change func(l []api.Memory)
		frozen bool
	}{
		{"none", func([]api.Memory) {}, false},
		{"the latest sector", func(l []api.Memory) { l[1].Sectors[0][10] = 0 }, true},
		{"a torn byte", func(l []api.Memory) { l[0].Sectors[1][10] = 15 }, true},
		{"an earlier sector", func(l []api.Memory) { l[0].Sectors[0][10], l[1].Sectors[1][10] = 0, 0 }, false},
		{"a bad sector", func(l []api.Memory) { l[0].Sectors[1][10], l[0].Bad[1] = 0, true }, false},
		{"no head", func(l []api.Memory) { clear(l[1].Sectors[0][:16]); clear(l[1].Sectors[1][:16]) }, false},
	} {
		l := []api.Memory{filled(t, 1, 1, 2), filled(t, 1, 6, 4)}
		x.change(l)
		r := mounted(t, l, 1)
		_, _, e := r.Record(numbered(t, 1, 0), 500)
		want := api.OK
		if x.frozen {
			want = api.ErrState
		}
		wantErrno(t, x.name, e, want)
	}
	r := mounted(t, several(t, 1, 2, 2, 9), 1)
	recorded(t, r, numbered(t, 1, 0))
	_, done, e := r.Freeze(1)
	wantSame(t, "Freeze", []any{done, e}, []any{true, api.OK})
	again := mounted(t, r.Memories(), 1)
	_, _, e = again.Freeze(1)
	wantErrno(t, "Freeze of a frozen one", e, api.ErrState)
}
