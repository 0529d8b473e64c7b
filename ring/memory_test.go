package ring_test

import (
	"testing"

	"orangebox/api"
	"orangebox/ring"
)

// C1: sizes, and what is in a new memory.
func TestNewMemory(t *testing.T) {
	for _, x := range [][3]int{{2, 1, 1}, {3, 2, 5}, {ring.MaxSectors, ring.MaxSlots, ring.MaxLimit}} {
		m := fresh(t, x[0], x[1], x[2])
		if m.Slots != x[1] || m.Limit != x[2] {
			t.Errorf("%v: slots %d, limit %d", x, m.Slots, m.Limit)
		}
		wantSame(t, "wear", m.Wear, make([]int, x[0]))
		wantSame(t, "bad sectors", m.Bad, make([]bool, x[0]))
		if len(m.Sectors) != x[0] {
			t.Fatalf("%v: %d sectors", x, len(m.Sectors))
		}
		for i, s := range m.Sectors {
			if len(s) != 16+97*x[1] {
				t.Errorf("%v: %d bytes in sector %d", x, len(s), i)
			}
			for at, b := range s {
				if b != 255 {
					t.Fatalf("%v: byte %d of sector %d is %d", x, at, i, b)
				}
			}
		}
		wantErrno(t, "CheckMemory", ring.CheckMemory(m), api.OK)
	}
}

// C1: each size beyond its range.
func TestNewMemoryErrors(t *testing.T) {
	wrong := [][3]int{{1, 1, 1}, {0, 1, 1}, {65, 1, 1}, {2, 0, 1}, {2, 65, 1}, {2, 1, 0}, {2, 1, 1000001}}
	for _, n := range beyond() {
		wrong = append(wrong, [3]int{n, 1, 1}, [3]int{2, n, 1}, [3]int{2, 1, n})
	}
	for _, x := range wrong {
		m, e := ring.NewMemory(x[0], x[1], x[2])
		wantErrno(t, "NewMemory", e, api.ErrRange)
		wantNothing(t, "NewMemory", m)
	}
}

// C1: the sectors of a new memory share no bytes, not even behind their ends.
func TestSectorsOfNewMemoryAreApart(t *testing.T) {
	m := fresh(t, 3, 2, 5)
	_ = append(m.Sectors[0], 1, 2, 3)
	m.Sectors[0][0] = 1
	wantSame(t, "other sectors", m.Sectors[1:], fresh(t, 2, 2, 5).Sectors)
}

// C1: each error, and each ahead of those that come later.
func TestCheckMemory(t *testing.T) {
	good := fresh(t, 3, 2, 5)
	good.Wear[2] = 5
	good.Bad[1] = true
	wantErrno(t, "CheckMemory", ring.CheckMemory(good), api.OK)
	for _, x := range []struct {
		name   string
		change func(m *api.Memory)
		want   api.Errno
	}{
		{"no slots", func(m *api.Memory) { m.Slots, m.Wear = 0, nil }, api.ErrRange},
		{"too many slots", func(m *api.Memory) { m.Slots, m.Wear = 65, nil }, api.ErrRange},
		{"no limit", func(m *api.Memory) { m.Limit, m.Bad = 0, nil }, api.ErrRange},
		{"limit too great", func(m *api.Memory) { m.Limit, m.Bad = ring.MaxLimit+1, nil }, api.ErrRange},
		{"no sectors", func(m *api.Memory) { m.Sectors = nil }, api.ErrRange},
		{"one sector", func(m *api.Memory) { m.Sectors = m.Sectors[:1] }, api.ErrRange},
		{"too many sectors", func(m *api.Memory) { m.Sectors = make([][]byte, 65) }, api.ErrRange},
		{"wear missing", func(m *api.Memory) { m.Wear, m.Sectors[0] = m.Wear[:2], nil }, api.ErrForm},
		{"more wear", func(m *api.Memory) { m.Wear, m.Sectors[0] = make([]int, 4), nil }, api.ErrForm},
		{"bad missing", func(m *api.Memory) { m.Bad, m.Wear[0] = m.Bad[:2], -1 }, api.ErrForm},
		{"more bad", func(m *api.Memory) { m.Bad, m.Wear[0] = make([]bool, 4), -1 }, api.ErrForm},
		{"a byte missing", func(m *api.Memory) { m.Sectors[0], m.Wear[0] = m.Sectors[0][:209], -1 }, api.ErrSize},
		{"a byte more", func(m *api.Memory) { m.Sectors[0], m.Wear[1] = make([]byte, 211), -1 }, api.ErrSize},
		{"wear negative", func(m *api.Memory) { m.Wear[0], m.Sectors[1] = -1, nil }, api.ErrRange},
		{"wear beyond the limit", func(m *api.Memory) { m.Wear[1], m.Sectors[2] = 6, nil }, api.ErrRange},
		{"last sector", func(m *api.Memory) { m.Sectors[2] = nil }, api.ErrSize},
		{"zero memory", func(m *api.Memory) { *m = api.Memory{} }, api.ErrRange},
	} {
		m := copyOf(good)
		x.change(&m)
		wantErrno(t, x.name, ring.CheckMemory(m), x.want)
		l, e := ring.Sectors(m)
		wantErrno(t, "Sectors, "+x.name, e, x.want)
		d, f := ring.Damage(m, -1)
		wantErrno(t, "Damage, "+x.name, f, x.want)
		wantNothing(t, x.name, l, d)
	}
}

// C1: what functions with lists of memories ask first.
func TestListsOfMemories(t *testing.T) {
	small, torn := fresh(t, 2, 1, 1), fresh(t, 2, 1, 1)
	small.Slots = 0
	torn.Bad = nil
	good := several(t, ring.MaxMemories, 2, 1, 1)
	for _, x := range []struct {
		name string
		l    []api.Memory
		want api.Errno
	}{
		{"none", nil, api.ErrSize},
		{"too many", append(copyOfAll(good), small), api.ErrSize},
		{"the first error", []api.Memory{good[0], small, torn}, api.ErrRange},
		{"the other one first", []api.Memory{good[0], torn, small}, api.ErrForm},
		{"the last one", append(copyOfAll(good[:7]), torn), api.ErrForm},
	} {
		wantErrno(t, "CheckMemories, "+x.name, ring.CheckMemories(x.l), x.want)
		kept, e := ring.Recover(x.l)
		wantErrno(t, "Recover, "+x.name, e, x.want)
		frames, e := ring.Frames(x.l)
		wantErrno(t, "Frames, "+x.name, e, x.want)
		n, e := ring.Capacity(x.l, 0)
		wantErrno(t, "Capacity, "+x.name, e, x.want)
		r, e := ring.Mount(x.l, 0)
		wantErrno(t, "Mount, "+x.name, e, x.want)
		wantNothing(t, x.name, kept, frames, n, r)
	}
	wantErrno(t, "as many as can be", ring.CheckMemories(good), api.OK)
	_, e := ring.Frames(good)
	wantErrno(t, "as many as can be", e, api.OK)
	mounted(t, good, ring.MaxMemories)
}

// C4: a damaged sector is bad and 0, and everything else stays.
func TestDamage(t *testing.T) {
	r := mounted(t, several(t, 1, 3, 2, 5), 1)
	recorded(t, r, run(t, 0, 5)...)
	m := r.Memories()[0]
	before := copyOf(m)
	want := copyOf(m)
	want.Bad[1] = true
	want.Sectors[1] = make([]byte, 210)
	got, e := ring.Damage(m, 1)
	wantErrno(t, "Damage", e, api.OK)
	wantSame(t, "Damage", got, want)
	again, e := ring.Damage(got, 1)
	wantErrno(t, "Damage again", e, api.OK)
	wantSame(t, "Damage again", again, want)
	for _, s := range got.Sectors {
		_ = append(s, 7)
		s[0] = 7
	}
	got.Bad[0], got.Wear[0] = true, 3
	wantSame(t, "argument", m, before)
	for _, n := range append(beyond(), 3) {
		d, e := ring.Damage(m, n)
		wantErrno(t, "Damage", e, api.ErrRange)
		wantNothing(t, "Damage", d)
	}
}
