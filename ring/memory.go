package ring

import (
	"bytes"
	"slices"

	"orangebox/api"
)

// NewMemory returns a memory that has never been written.
func NewMemory(sectors, slots, limit int) (api.Memory, api.Errno) {
	if e := checkSizes(sectors, slots, limit); e != api.OK {
		return api.Memory{}, e
	}
	m := api.Memory{
		Slots:   slots,
		Limit:   limit,
		Sectors: make([][]byte, sectors),
		Wear:    make([]int, sectors),
		Bad:     make([]bool, sectors),
	}
	for i := range m.Sectors {
		m.Sectors[i] = make([]byte, sectorBytes(slots))
		fill(m.Sectors[i])
	}
	return m, api.OK
}

// CheckMemory returns what is wrong with a memory.
func CheckMemory(m api.Memory) api.Errno {
	if e := checkSizes(len(m.Sectors), m.Slots, m.Limit); e != api.OK {
		return e
	}
	if len(m.Wear) != len(m.Sectors) || len(m.Bad) != len(m.Sectors) {
		return api.ErrForm
	}
	for i, s := range m.Sectors {
		if len(s) != sectorBytes(m.Slots) {
			return api.ErrSize
		}
		if m.Wear[i] < 0 || m.Wear[i] > m.Limit {
			return api.ErrRange
		}
	}
	return api.OK
}

// CheckMemories returns what is wrong with memories that belong together.
func CheckMemories(l []api.Memory) api.Errno {
	if len(l) < 1 || len(l) > MaxMemories {
		return api.ErrSize
	}
	for _, m := range l {
		if e := CheckMemory(m); e != api.OK {
			return e
		}
	}
	return api.OK
}

// Damage returns the memory with a sector that does not work any more.
func Damage(m api.Memory, sector int) (api.Memory, api.Errno) {
	if e := CheckMemory(m); e != api.OK {
		return api.Memory{}, e
	}
	if sector < 0 || sector >= len(m.Sectors) {
		return api.Memory{}, api.ErrRange
	}
	damaged := copyMemory(m)
	damaged.Bad[sector] = true
	clear(damaged.Sectors[sector])
	return damaged, api.OK
}

func checkSizes(sectors, slots, limit int) api.Errno {
	if sectors < minSectors || sectors > MaxSectors || slots < 1 || slots > MaxSlots || limit < 1 || limit > MaxLimit {
		return api.ErrRange
	}
	return api.OK
}

func sectorBytes(slots int) int {
	return HeadBytes + slots*SlotBytes
}

func copyMemory(m api.Memory) api.Memory {
	c := m
	c.Sectors = make([][]byte, len(m.Sectors))
	for i, s := range m.Sectors {
		c.Sectors[i] = bytes.Clone(s)
	}
	c.Wear = slices.Clone(m.Wear)
	c.Bad = slices.Clone(m.Bad)
	return c
}
