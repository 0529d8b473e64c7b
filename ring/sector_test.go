package ring_test

import (
	"bytes"
	"slices"
	"testing"

	"orangebox/api"
	"orangebox/ring"
)

func headed(sequence int) []byte {
	s := bytes.Repeat([]byte{255}, 16+97*2)
	putHead(s, sequence)
	return s
}

// C3: sequence numbers up to MaxSequence; the head is enough.
func TestHead(t *testing.T) {
	for _, n := range []int{1, 2, 255, 256, 65536, 1<<24 + 5, 0x01020304, ring.MaxSequence - 1, ring.MaxSequence} {
		for _, size := range []int{16, 17, 113, 210} {
			sequence, frozen, ok := ring.Head(headed(n)[:size])
			wantSame(t, "Head", []any{sequence, frozen, ok}, []any{n, false, true})
		}
	}
	sequence, frozen, ok := ring.Head([]byte{79, 66, 1, 2, 3, 4, 254, 253, 252, 251, 255, 0, 0, 0, 0, 0})
	wantSame(t, "Head", []any{sequence, frozen, ok}, []any{0x01020304, false, true})
}

// C3: what is no head has no number.
func TestHeadMissing(t *testing.T) {
	wrong := [][]byte{nil, make([]byte, 210), bytes.Repeat([]byte{255}, 210)}
	for n := range 16 {
		wrong = append(wrong, headed(5)[:n])
	}
	for _, n := range []int{0, ring.MaxSequence + 1, 1<<31 - 1, 1 << 31, 1<<32 - 1} {
		wrong = append(wrong, headed(n))
	}
	for i := range 10 {
		for bit := range 8 {
			s := headed(0x12345678)
			s[i] ^= 1 << bit
			wrong = append(wrong, s)
		}
	}
	for _, s := range wrong {
		if len(s) >= 16 {
			s[10] = 0
		}
		sequence, frozen, ok := ring.Head(s)
		wantNothing(t, "Head", sequence, frozen, ok)
	}
}

// C3: every byte but 255 freezes, also a torn one; the bytes behind it mean nothing.
func TestHeadFrozen(t *testing.T) {
	for b := range 256 {
		s := headed(7)
		s[10] = byte(b)
		copy(s[11:16], []byte{1, 2, 3, 4, 5})
		sequence, frozen, ok := ring.Head(s)
		wantSame(t, "Head", []any{sequence, frozen, ok}, []any{7, b != 255, true})
	}
}

// C3: free, written and torn slots.
func TestStates(t *testing.T) {
	s := bytes.Repeat([]byte{255}, 16+97*6)
	clear(s[:16]) // the head does not matter
	clear(s[16 : 16+97])
	s[16+97*2-1] = 0 // a mark without a frame
	s[16+97*2] = 254
	s[16+97*4-1] = 15
	s[16+97*5-2] = 127
	states, e := ring.States(s)
	wantErrno(t, "States", e, api.OK)
	wantSame(t, "States", states, []int{api.SlotWritten, api.SlotWritten, api.SlotTorn, api.SlotTorn, api.SlotTorn, api.SlotFree})
	for bit := range 97 * 8 {
		s := headed(1)
		s[16+97+bit/8] ^= 1 << (bit % 8)
		states, _ := ring.States(s)
		wantSame(t, "States", states, []int{api.SlotFree, api.SlotTorn})
	}
}

// C3: sectors of any number of slots are read, others not.
func TestSectorSizes(t *testing.T) {
	for n := range 700 {
		s := make([]byte, n, n+200)
		states, e := ring.States(s)
		f, g := ring.SlotFrame(s, 0)
		want := api.ErrSize
		if n >= 113 && (n-16)%97 == 0 {
			want = api.OK
		}
		wantErrno(t, "States", e, want)
		wantErrno(t, "SlotFrame", g, want)
		if want == api.OK {
			wantSame(t, "number of slots", len(states), (n-16)/97)
			continue
		}
		wantNothing(t, "without slots", states, f)
	}
	states, e := ring.States(make([]byte, 16+97*1000))
	wantSame(t, "a long sector", []any{len(states), e}, []any{1000, api.OK})
}

// C3: the frame of a slot, whatever its state.
func TestSlotFrame(t *testing.T) {
	s := headed(1)
	l := run(t, 70, 2)
	for i, f := range l {
		for _, mark := range []byte{255, 15, 0} {
			putSlot(t, s, i, f, mark)
			got, e := ring.SlotFrame(s, i)
			wantErrno(t, "SlotFrame", e, api.OK)
			wantSame(t, "SlotFrame", got, f)
		}
	}
	got, e := ring.SlotFrame(headed(1), 1)
	wantErrno(t, "free slot", e, api.OK)
	wantSame(t, "free slot", got[:], slices.Repeat([]uint16{4095}, 64))
	for _, i := range append(beyond(), 2) {
		f, e := ring.SlotFrame(s, i)
		wantErrno(t, "SlotFrame", e, api.ErrRange)
		wantNothing(t, "SlotFrame", f)
		_, e = ring.SlotFrame(s[:209], i)
		wantErrno(t, "SlotFrame of a wrong sector", e, api.ErrSize)
	}
}

// C3: headed sectors that work, by their sequence numbers, then by their own.
func TestSectors(t *testing.T) {
	m := fresh(t, 8, 1, 5)
	for i, n := range []int{9, 3, 0, 9, 1, ring.MaxSequence, 3, 2} {
		if n > 0 {
			putHead(m.Sectors[i], n)
		}
	}
	m.Sectors[5][10] = 0
	m.Bad[7] = true
	before := copyOf(m)
	l, e := ring.Sectors(m)
	wantErrno(t, "Sectors", e, api.OK)
	wantSame(t, "Sectors", l, []int{4, 1, 6, 0, 3, 5})
	wantSame(t, "argument", m, before)
	l, e = ring.Sectors(fresh(t, 2, 1, 1))
	wantErrno(t, "Sectors of a new memory", e, api.OK)
	wantNothing(t, "Sectors of a new memory", l)
}
