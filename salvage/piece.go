package salvage

import (
	"bytes"
	"slices"

	"orangebox/api"
	"orangebox/ring"
)

// CheckPiece returns what is wrong with a piece.
func CheckPiece(p api.Piece) api.Errno {
	if len(p.Bytes) > MaxBytes {
		return api.ErrSize
	}
	if p.Half && (len(p.Bytes) == 0 || p.Bytes[0] > lowHalf) {
		return api.ErrForm
	}
	return api.OK
}

// Length returns the number of halves of a piece.
func Length(p api.Piece) (int, api.Errno) {
	if e := CheckPiece(p); e != api.OK {
		return 0, e
	}
	return length(p), api.OK
}

// HalfAt returns a half of a piece.
func HalfAt(p api.Piece, i int) (int, api.Errno) {
	if e := CheckPiece(p); e != api.OK {
		return 0, e
	}
	if i < 0 || i >= length(p) {
		return 0, api.ErrRange
	}
	return int(halfAt(p, i)), api.OK
}

// Cut returns the halves of a piece from one on, before another one.
func Cut(p api.Piece, from, to int) (api.Piece, api.Errno) {
	if e := CheckPiece(p); e != api.OK {
		return api.Piece{}, e
	}
	if from < 0 || from > to || to > length(p) {
		return api.Piece{}, api.ErrRange
	}
	return cut(p, from, to), api.OK
}

// Join returns the bytes of a piece with those of another one behind them.
func Join(p, q api.Piece) (api.Piece, api.Errno) {
	if e := checkPieces(p, q); e != api.OK {
		return api.Piece{}, e
	}
	if q.Half {
		return api.Piece{}, api.ErrForm
	}
	if len(p.Bytes)+len(q.Bytes) > MaxBytes {
		return api.Piece{}, api.ErrSize
	}
	return api.Piece{Bytes: slices.Concat(p.Bytes, q.Bytes), Half: p.Half}, api.OK
}

// Pieces cuts the bytes of memories into pieces.
func Pieces(l []api.Memory, cuts []int) ([]api.Piece, api.Errno) {
	if e := ring.CheckMemories(l); e != api.OK {
		return nil, e
	}
	whole := allBytes(l)
	if e := checkCuts(cuts, length(whole)); e != api.OK {
		return nil, e
	}
	var pieces []api.Piece
	from := 0
	for _, to := range slices.Concat(cuts, []int{length(whole)}) {
		p := cut(whole, from, to)
		if len(p.Bytes) > MaxBytes {
			return nil, api.ErrSize
		}
		if from < to {
			pieces = append(pieces, p)
		}
		from = to
	}
	return pieces, api.OK
}

func checkPieces(l ...api.Piece) api.Errno {
	if len(l) > MaxPieces {
		return api.ErrSize
	}
	for _, p := range l {
		if e := CheckPiece(p); e != api.OK {
			return e
		}
	}
	return api.OK
}

func checkCuts(cuts []int, length int) api.Errno {
	if len(cuts) > MaxPieces-1 {
		return api.ErrSize
	}
	before := 0
	for _, c := range cuts {
		if c < 0 || c > length {
			return api.ErrRange
		}
		if c < before {
			return api.ErrOrder
		}
		before = c
	}
	return api.OK
}

// skipped is how many halves of the first byte are not there.
func skipped(p api.Piece) int {
	if p.Half {
		return 1
	}
	return 0
}

func length(p api.Piece) int {
	return 2*len(p.Bytes) - skipped(p)
}

func halfAt(p api.Piece, i int) byte {
	i += skipped(p)
	b := p.Bytes[i/2]
	if i%2 == 0 {
		return b >> halfBits
	}
	return b & lowHalf
}

// cut also cuts what has more bytes than a piece can have.
func cut(p api.Piece, from, to int) api.Piece {
	if from == to {
		return api.Piece{}
	}
	from, to = from+skipped(p), to+skipped(p)
	c := api.Piece{Bytes: bytes.Clone(p.Bytes[from/2 : (to+1)/2]), Half: from%2 == 1}
	if c.Half {
		c.Bytes[0] &= lowHalf
	}
	if to%2 == 1 {
		c.Bytes[len(c.Bytes)-1] &= highHalf
	}
	return c
}

// allBytes returns the bytes of all sectors of memories, one behind the other.
func allBytes(l []api.Memory) api.Piece {
	var b []byte
	for _, m := range l {
		b = append(b, bytes.Join(m.Sectors, nil)...)
	}
	return api.Piece{Bytes: b}
}
