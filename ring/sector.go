package ring

import (
	"cmp"
	"slices"

	"orangebox/api"
	"orangebox/frame"
)

const (
	signBytes = 10            // of a head: those by which a sector is headed
	frozenAt  = signBytes     // the byte of a head that is 255 as long as the sector is not frozen
	markAt    = SlotBytes - 1 // the byte of a slot that says that the frame ahead of it is whole
	written   = 0             // as a mark, and as the byte at frozenAt
)

// Head returns the sequence number of a sector and whether it is frozen, if the sector is headed.
func Head(s []byte) (sequence int, frozen, ok bool) {
	h, ok := headOf(s)
	if !ok {
		return 0, false, false
	}
	for _, b := range h[2:6] {
		sequence = sequence<<8 | int(b)
	}
	if sequence < 1 || sequence > MaxSequence || [signBytes]byte(h[:signBytes]) != signOf(sequence) {
		return 0, false, false
	}
	return sequence, h[frozenAt] != erased, true
}

// States returns the states of all slots of a sector.
func States(s []byte) ([]int, api.Errno) {
	n, e := countSlots(s)
	if e != api.OK {
		return nil, e
	}
	states := make([]int, n)
	for i := range states {
		states[i] = stateOf(slotOf(s, i))
	}
	return states, api.OK
}

// SlotFrame returns the frame in a slot, whatever the state of the slot.
func SlotFrame(s []byte, i int) (api.Frame, api.Errno) {
	n, e := countSlots(s)
	if e != api.OK {
		return api.Frame{}, e
	}
	if i < 0 || i >= n {
		return api.Frame{}, api.ErrRange
	}
	return frame.FromBytes(slotOf(s, i)[:markAt])
}

// Sectors returns the numbers of the headed sectors of a memory that work, by their sequence numbers.
func Sectors(m api.Memory) ([]int, api.Errno) {
	if e := CheckMemory(m); e != api.OK {
		return nil, e
	}
	return sectors(m), api.OK
}

// sectors wants a memory without errors.
func sectors(m api.Memory) []int {
	type headed struct{ sequence, number int }
	var l []headed
	for i, s := range m.Sectors {
		sequence, _, ok := Head(s)
		if ok && !m.Bad[i] {
			l = append(l, headed{sequence, i})
		}
	}
	slices.SortFunc(l, func(a, b headed) int {
		return cmp.Or(cmp.Compare(a.sequence, b.sequence), cmp.Compare(a.number, b.number))
	})
	numbers := make([]int, len(l))
	for i, h := range l {
		numbers[i] = h.number
	}
	return numbers
}

// headOf takes the head of a sector as an array, without a copy.
func headOf(s []byte) (*[HeadBytes]byte, bool) {
	if len(s) < HeadBytes {
		return nil, false
	}
	return (*[HeadBytes]byte)(s), true
}

// signOf returns the bytes by which a sector is headed.
func signOf(sequence int) [signBytes]byte {
	sign := [signBytes]byte{79, 66}
	for i := range 4 {
		b := byte(sequence >> (24 - 8*i) & 255)
		sign[2+i], sign[6+i] = b, ^b
	}
	return sign
}

// countSlots asks for the length of a sector, by which slotOf can take slots.
func countSlots(s []byte) (int, api.Errno) {
	room := len(s) - HeadBytes
	if room < SlotBytes || room%SlotBytes != 0 {
		return 0, api.ErrSize
	}
	return room / SlotBytes, api.OK
}

// slotOf takes a slot as an array, without a copy. It wants one that countSlots has counted.
func slotOf(s []byte, i int) *[SlotBytes]byte {
	return (*[SlotBytes]byte)(s[HeadBytes+i*SlotBytes:])
}

func stateOf(p *[SlotBytes]byte) int {
	if p[markAt] == written {
		return api.SlotWritten
	}
	for _, b := range p {
		if b != erased {
			return api.SlotTorn
		}
	}
	return api.SlotFree
}
