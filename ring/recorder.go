package ring

import (
	"orangebox/api"
	"orangebox/frame"
)

// stand is a sector of a memory, and the slot in it that comes next; the sector is -1 if there is none.
type stand struct{ sector, slot int }

// Recorder writes frames into memories of its own.
type Recorder struct {
	bank
	copies          int
	stands          []stand // one for each memory
	frozen, stopped bool
	last            int // -1 if no frame was written in all its targets
}

// Mount makes a recorder that goes on behind what is in memories.
func Mount(l []api.Memory, copies int) (*Recorder, api.Errno) {
	b, e := bankOf(l)
	if e != api.OK {
		return nil, e
	}
	if e := b.checkCopies(copies); e != api.OK {
		return nil, e
	}
	r := &Recorder{bank: b.copied(), copies: copies, last: -1}
	for _, m := range r.memories {
		at := standing(m)
		r.stands = append(r.stands, at)
		if at.sector >= 0 {
			_, frozen, _ := Head(m.Sectors[at.sector])
			r.frozen = r.frozen || frozen
		}
	}
	return r, api.OK
}

// Record writes a frame into its targets, as long as power lasts.
func (r *Recorder) Record(f api.Frame, power int) (int, bool, api.Errno) {
	if e := r.check(power); e != api.OK {
		return 0, false, e
	}
	if !frame.Sound(f) {
		return 0, false, api.ErrForm
	}
	number, _ := frame.Number(f)
	list := targets(number, len(r.memories), r.copies)
	if e := r.checkSectors(list); e != api.OK {
		return 0, false, e
	}
	data, _ := frame.ToBytes(f) // a sound frame has no word that is too wide
	var done bool
	for _, i := range list {
		power, done = r.put(i, data, power)
		if !done {
			r.stopped = true
			return 0, false, api.OK
		}
	}
	r.last = number
	return power, true, api.OK
}

// Freeze makes the recorder refuse frames, and marks the sectors at which it stands, so that one that is mounted there later refuses them, too.
func (r *Recorder) Freeze(power int) (int, bool, api.Errno) {
	if e := r.check(power); e != api.OK {
		return 0, false, e
	}
	r.frozen = true
	var done bool
	for i, at := range r.stands {
		if at.sector < 0 {
			continue
		}
		h, _ := headOf(r.memories[i].Sectors[at.sector])
		power, done = write(h[frozenAt:], []byte{written}, power)
		if !done {
			r.stopped = true
			return 0, false, api.OK
		}
	}
	return power, true, api.OK
}

// Memories returns a copy of the memories as they are.
func (r *Recorder) Memories() []api.Memory {
	return r.copied().memories
}

// Last returns the number of the last frame that this recorder has written in all its targets.
func (r *Recorder) Last() (int, bool) {
	if r.last < 0 {
		return 0, false
	}
	return r.last, true
}

func (r *Recorder) check(power int) api.Errno {
	if r.stopped {
		return api.ErrPower
	}
	if r.frozen {
		return api.ErrState
	}
	return checkPower(power)
}

// checkSectors asks for all targets before one of them is written.
func (r *Recorder) checkSectors(list []int) api.Errno {
	for _, i := range list {
		if r.isFull(i) && r.next(i) < 0 {
			return api.ErrNone
		}
	}
	for _, i := range list {
		if r.isFull(i) && greatest(r.memories[i], r.next(i)) >= MaxSequence {
			return api.ErrSize
		}
	}
	return api.OK
}

// isFull says that a memory has no slot left where the recorder stands.
func (r *Recorder) isFull(i int) bool {
	return r.stands[i].sector < 0 || r.stands[i].slot >= r.memories[i].Slots
}

// next returns the sector of a memory that the recorder goes on to, or -1.
func (r *Recorder) next(i int) int {
	m := r.memories[i]
	for k := range m.Sectors {
		s := (r.stands[i].sector + 1 + k) % len(m.Sectors)
		if !m.Bad[s] && m.Wear[s] < m.Limit {
			return s
		}
	}
	return -1
}

// put writes a frame into a memory, with the mark behind all its bytes: a frame without the mark was not finished.
func (r *Recorder) put(i int, data []byte, power int) (int, bool) {
	var done bool
	if r.isFull(i) {
		power, done = r.open(i, power)
		if !done {
			return 0, false
		}
	}
	at := &r.stands[i]
	slot := slotOf(r.memories[i].Sectors[at.sector], at.slot)
	power, done = write(slot[:markAt], data, power)
	if !done {
		return 0, false
	}
	at.slot++
	return write(slot[markAt:], []byte{written}, power)
}

// open goes on to another sector of a memory. It wants that there is one.
func (r *Recorder) open(i, power int) (int, bool) {
	m := r.memories[i]
	number := r.next(i)
	m.Wear[number]++
	power, done := erase(m.Sectors[number], power)
	if !done {
		return 0, false
	}
	sign := signOf(greatest(m, number) + 1)
	power, done = write(m.Sectors[number], sign[:], power)
	if !done {
		return 0, false
	}
	r.stands[i] = stand{sector: number}
	return power, true
}

// standing returns where a recorder stands when it is mounted.
func standing(m api.Memory) stand {
	l := sectors(m)
	if len(l) == 0 {
		return stand{sector: -1}
	}
	at := stand{sector: l[len(l)-1]}
	states, _ := States(m.Sectors[at.sector])
	for i, state := range states {
		if state != api.SlotFree {
			at.slot = i + 1
		}
	}
	return at
}

// greatest returns the greatest sequence number of a memory, without that of a sector that is going to be erased.
func greatest(m api.Memory, without int) int {
	most := 0
	for i, s := range m.Sectors {
		sequence, _, ok := Head(s)
		if ok && i != without {
			most = max(most, sequence)
		}
	}
	return most
}
