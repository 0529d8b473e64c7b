package salvage

import "orangebox/api"

// Overlap returns how many of the last halves of a piece are the first ones of another piece, if they are enough.
func Overlap(p, q api.Piece, least int) (int, bool, api.Errno) {
	if e := checkPieces(p, q); e != api.OK {
		return 0, false, e
	}
	if least < 1 || least > 2*MaxBytes {
		return 0, false, api.ErrRange
	}
	n := overlap(spread(p, 0, length(p)), spread(q, 0, length(q)))
	if n < least {
		return 0, false, api.OK
	}
	return n, true, api.OK
}

// overlap goes through both lists once: where halves differ, it goes on with the next shorter beginning of q that still fits.
func overlap(p, q []byte) int {
	p = p[max(len(p)-len(q), 0):]
	shorter := borders(q)
	n := 0
	for _, h := range p {
		n = grown(q, shorter, n, h)
	}
	return n
}

// borders returns, for each beginning of q, the longest shorter beginning of q with which it ends.
func borders(q []byte) []int {
	l := make([]int, len(q)+1)
	n := 0
	for i := 1; i < len(q); i++ {
		n = grown(q, l, n, q[i])
		l[i+1] = n
	}
	return l
}

// grown returns how many of the first halves of q end with the half h, if n of them were there ahead of it.
func grown(q []byte, shorter []int, n int, h byte) int {
	for n > 0 && q[n] != h {
		n = shorter[n]
	}
	if q[n] == h {
		n++
	}
	return n
}
