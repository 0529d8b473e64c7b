package ring

import (
	"maps"
	"slices"

	"orangebox/api"
	"orangebox/frame"
)

// bank is memories that belong together, without errors. Those who read them and recorders share it.
type bank struct{ memories []api.Memory }

// Recover returns what is in memories.
func Recover(l []api.Memory) ([]api.Kept, api.Errno) {
	b, e := bankOf(l)
	if e != api.OK {
		return nil, e
	}
	return b.kept(), api.OK
}

// Frames returns the sound frames in memories by their numbers, one for each number.
func Frames(l []api.Memory) ([]api.Frame, api.Errno) {
	b, e := bankOf(l)
	if e != api.OK {
		return nil, e
	}
	latest := map[int]api.Kept{}
	for _, k := range b.kept() {
		if !frame.Sound(k.Frame) {
			continue
		}
		number, _ := frame.Number(k.Frame)
		if old, ok := latest[number]; !ok || k.Sequence > old.Sequence {
			latest[number] = k
		}
	}
	frames := make([]api.Frame, 0, len(latest))
	for _, number := range slices.Sorted(maps.Keys(latest)) {
		frames = append(frames, latest[number].Frame)
	}
	return frames, api.OK
}

// Capacity returns how many of the latest frames are certainly there.
func Capacity(l []api.Memory, copies int) (int, api.Errno) {
	b, e := bankOf(l)
	if e != api.OK {
		return 0, e
	}
	if e := b.checkCopies(copies); e != api.OK {
		return 0, e
	}
	least := sure(b.memories[0])
	for _, m := range b.memories[1:] {
		least = min(least, sure(m))
	}
	return least * len(b.memories) / copies, api.OK
}

// Targets returns the numbers of the memories into which the frame with a number goes.
func Targets(number, memories, copies int) ([]int, api.Errno) {
	if number < 0 || number >= api.Number || memories < 1 || memories > MaxMemories || copies < 1 || copies > memories {
		return nil, api.ErrRange
	}
	return targets(number, memories, copies), api.OK
}

// bankOf takes the memories themselves: who writes into them copies them first.
func bankOf(l []api.Memory) (bank, api.Errno) {
	if e := CheckMemories(l); e != api.OK {
		return bank{}, e
	}
	return bank{l}, api.OK
}

func (b bank) checkCopies(copies int) api.Errno {
	if copies < 1 || copies > len(b.memories) {
		return api.ErrRange
	}
	return api.OK
}

// copied returns a bank that shares no memory with this one.
func (b bank) copied() bank {
	l := make([]api.Memory, len(b.memories))
	for i, m := range b.memories {
		l[i] = copyMemory(m)
	}
	return bank{l}
}

func (b bank) kept() []api.Kept {
	var l []api.Kept
	for i, m := range b.memories {
		for _, number := range sectors(m) {
			for _, k := range keptIn(m.Sectors[number]) {
				k.Memory, k.Sector = i, number
				l = append(l, k)
			}
		}
	}
	return l
}

// keptIn does not know the numbers of the memory and of the sector.
func keptIn(s []byte) []api.Kept {
	var l []api.Kept
	sequence, _, _ := Head(s)
	states, _ := States(s)
	for i, state := range states {
		if state == api.SlotWritten {
			f, _ := SlotFrame(s, i)
			l = append(l, api.Kept{Sequence: sequence, Slot: i, Frame: f})
		}
	}
	return l
}

// sure leaves out one sector, since one can have been erased just now.
func sure(m api.Memory) int {
	working := 0
	for _, bad := range m.Bad {
		if !bad {
			working++
		}
	}
	return max(working-1, 0) * m.Slots
}

func targets(number, memories, copies int) []int {
	l := make([]int, copies)
	for i := range l {
		l[i] = (number + i) % memories
	}
	return l
}
