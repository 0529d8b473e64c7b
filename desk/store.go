package desk

import (
	"slices"

	"orangebox/api"
	"orangebox/ring"
	"orangebox/salvage"
)

const (
	halfBits = 4
	lowHalf  = 15
)

// pair is a byte of a piece in place: its high half and its low one.
type pair [1]byte

// Store records frames into memories as long as power lasts, and returns these, how many frames were written, and the power that is left.
func Store(l []api.Frame, m []api.Memory, copies, power int) ([]api.Memory, int, int, api.Errno) {
	if len(l) > api.Super*MaxSupers {
		return nil, 0, 0, api.ErrSize
	}
	r, e := ring.Mount(m, copies)
	if e != api.OK {
		return nil, 0, 0, e
	}
	written := 0
	for _, f := range l {
		left, whole, e := r.Record(f, power)
		if e != api.OK {
			return nil, 0, 0, e
		}
		power = left
		if !whole {
			break // all further calls would have the error ErrPower
		}
		written++
	}
	return r.Memories(), written, power, api.OK
}

// Crash cuts memories into pieces, flips bits in them, and loses some.
func Crash(m []api.Memory, cuts, lost []int, flips []api.Flip) ([]api.Piece, api.Errno) {
	pieces, e := salvage.Pieces(m, cuts)
	if e != api.OK {
		return nil, e
	}
	if len(flips) > MaxFlips {
		return nil, api.ErrSize
	}
	for _, f := range flips {
		if !isPiece(f.Piece, pieces) || !flip(pieces[f.Piece], f.Half, f.Bits) {
			return nil, api.ErrRange
		}
	}
	for i, number := range lost {
		if !isPiece(number, pieces) {
			return nil, api.ErrRange
		}
		if slices.Contains(lost[:i], number) {
			return nil, api.ErrTwice
		}
	}
	var left []api.Piece
	for i, p := range pieces {
		if !slices.Contains(lost, i) {
			left = append(left, p)
		}
	}
	return left, api.OK
}

func isPiece(number int, l []api.Piece) bool {
	return number >= 0 && number < len(l)
}

// flip changes bits of a half of a piece in place, if there are such a half and such bits.
func flip(p api.Piece, half, bits int) bool {
	if half < 0 || bits < 1 || bits > lowHalf {
		return false
	}
	at, isLow := half/2, half%2 == 1
	if p.Half { // the high half of the first byte does not count
		at, isLow = at+half%2, !isLow
	}
	both, ok := pairOf(p.Bytes, at)
	if !ok {
		return false
	}
	if !isLow {
		bits <<= halfBits
	}
	both[0] ^= byte(bits)
	return true
}

// pairOf takes a byte of a piece as an array, without a copy, if it is there.
func pairOf(b []byte, at int) (*pair, bool) {
	if len(b)-at < len(pair{}) {
		return nil, false
	}
	return (*pair)(b[at:]), true
}
