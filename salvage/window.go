package salvage

import (
	"iter"
	"slices"

	"orangebox/api"
	"orangebox/frame"
)

const (
	missing = 16         // stands for a half that is not in the piece
	outside = Halves - 1 // so many halves of a frame can be ahead of a piece, or behind it
)

// window is the halves of a frame.
type window [Halves]byte

// strip is the halves of a piece between missing ones, so that each frame of which a half is there has its window.
type strip []byte

// FrameAt returns the frame that would begin at a half, and which of its words lie in the piece.
func FrameAt(p api.Piece, at int) (api.Frame, [api.Words]bool, api.Errno) {
	if e := CheckPiece(p); e != api.OK {
		return api.Frame{}, [api.Words]bool{}, e
	}
	if at < -outside || at >= length(p) {
		return api.Frame{}, [api.Words]bool{}, api.ErrRange
	}
	f, whole := (*window)(spread(p, at, at+Halves)).frame()
	return f, whole, api.OK
}

// Scan returns all sound frames in a piece.
func Scan(p api.Piece) ([]api.Found, api.Errno) {
	if e := CheckPiece(p); e != api.OK {
		return nil, e
	}
	return slices.Collect(stripOf(p).sound()), api.OK
}

// Certain returns the sound frames in a piece that have no half with another one in common.
func Certain(p api.Piece) ([]api.Found, api.Errno) {
	if e := CheckPiece(p); e != api.OK {
		return nil, e
	}
	return stripOf(p).certain(), api.OK
}

// spread returns the halves of a piece from one place on, before another one.
func spread(p api.Piece, from, to int) []byte {
	l := make([]byte, to-from)
	n := length(p)
	for i := range l {
		l[i] = missing
		if at := from + i; at >= 0 && at < n {
			l[i] = halfAt(p, at)
		}
	}
	return l
}

func stripOf(p api.Piece) strip {
	return spread(p, -outside, length(p)+outside)
}

func (s strip) length() int {
	return len(s) - 2*outside
}

// window takes the halves of a frame as an array, without a copy. It wants a frame of which a half is in the piece.
func (s strip) window(at int) *window {
	return (*window)(s[outside+at:])
}

// sound yields the sound frames in order.
func (s strip) sound() iter.Seq[api.Found] {
	return func(yield func(api.Found) bool) {
		for at := range s.length() - Halves + 1 {
			w := s.window(at)
			if !w.fitsSync() {
				continue
			}
			f, _ := w.frame()
			if frame.Sound(f) && !yield(api.Found{At: at, Frame: f}) {
				return
			}
		}
	}
}

func (s strip) certain() []api.Found {
	all := slices.Collect(s.sound())
	var l []api.Found
	for i, f := range all {
		ahead := i == 0 || f.At-all[i-1].At >= Halves
		behind := i == len(all)-1 || all[i+1].At-f.At >= Halves
		if ahead && behind {
			l = append(l, f)
		}
	}
	return l
}

// fitsSync is asked at every half of a piece, so that it looks at no more than the two bits of the number that tell the sync word.
func (w *window) fitsSync() bool {
	first, _ := w.word(0)
	sync, _ := frame.Sync(int(w[2*wordHalves-1] & 3))
	return int(first) == sync
}

// word returns a word, if all its halves are there.
func (w *window) word(i int) (uint16, bool) {
	high, middle, low := w[wordHalves*i], w[wordHalves*i+1], w[wordHalves*i+2]
	if high|middle|low >= missing {
		return 0, false
	}
	return uint16(high)<<(2*halfBits) | uint16(middle)<<halfBits | uint16(low), true
}

func (w *window) frame() (api.Frame, [api.Words]bool) {
	var f api.Frame
	var whole [api.Words]bool
	for i := range f {
		f[i], whole[i] = w.word(i)
	}
	return f, whole
}
