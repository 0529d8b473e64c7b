package ring

import (
	"bytes"

	"orangebox/api"
)

// PutBytes writes data into a sector, as long as power lasts.
func PutBytes(s []byte, at int, data []byte, power int) (int, bool, api.Errno) {
	if at < 0 {
		return 0, false, api.ErrRange
	}
	if e := checkPower(power); e != api.OK {
		return 0, false, e
	}
	if len(data) > len(s)-at {
		return 0, false, api.ErrSize
	}
	data = bytes.Clone(data) // it can lie in s itself, and what is written is what was given
	left, done := write(s[at:], data, power)
	return left, done, api.OK
}

// ClearSector erases a sector.
func ClearSector(s []byte, power int) (int, bool, api.Errno) {
	if e := checkPower(power); e != api.OK {
		return 0, false, e
	}
	left, done := erase(s, power)
	return left, done, api.OK
}

func checkPower(power int) api.Errno {
	if power < 0 || power > MaxPower {
		return api.ErrRange
	}
	return api.OK
}

// write returns the power that is left, and whether it lasted. It wants room for the data.
func write(s, data []byte, power int) (int, bool) {
	for i, b := range data {
		if i == power {
			s[i] &= b | 15 // torn: the low half stays
			return 0, false
		}
		s[i] &= b
	}
	return power - len(data), true
}

// erase returns the power that is left, and whether it lasted.
func erase(s []byte, power int) (int, bool) {
	if power == 0 {
		fill(s[:len(s)/2])
		return 0, false
	}
	fill(s)
	return power - 1, true
}

func fill(s []byte) {
	for i := range s {
		s[i] = erased
	}
}
