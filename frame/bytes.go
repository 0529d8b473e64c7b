package frame

import "orangebox/api"

const secondBytes = api.Second * api.Bytes

// ToBytes returns the 96 bytes in which a frame lies.
func ToBytes(f api.Frame) ([]byte, api.Errno) {
	if isWide(f) {
		return nil, api.ErrRange
	}
	b := make([]byte, api.Bytes)
	write((*[api.Bytes]byte)(b), f)
	return b, api.OK
}

// FromBytes reads a frame from the first 96 bytes.
func FromBytes(b []byte) (api.Frame, api.Errno) {
	return Get(b, 0)
}

// Get reads the frame at an offset.
func Get(b []byte, at int) (api.Frame, api.Errno) {
	p, e := inPlace(b, at)
	if e != api.OK {
		return api.Frame{}, e
	}
	return read(p), api.OK
}

// Put writes a frame at an offset.
func Put(b []byte, at int, f api.Frame) api.Errno {
	p, e := inPlace(b, at)
	if e != api.OK {
		return e
	}
	if isWide(f) {
		return api.ErrRange
	}
	write(p, f)
	return api.OK
}

// WordAt returns a word of the frame at an offset.
func WordAt(b []byte, at, i int) (int, api.Errno) {
	p, e := inPlace(b, at)
	if e != api.OK {
		return 0, e
	}
	if i < 0 || i >= api.Words {
		return 0, api.ErrRange
	}
	return int(readWord(p, i)), api.OK
}

// SetWord writes a word of the frame at an offset.
func SetWord(b []byte, at, i, word int) api.Errno {
	p, e := inPlace(b, at)
	if e != api.OK {
		return e
	}
	if i < 0 || i >= api.Words || word < 0 || word >= wordLimit {
		return api.ErrRange
	}
	writeWord(p, i, uint16(word))
	return api.OK
}

// ClearFrame makes all bytes of the frame at an offset 255.
func ClearFrame(b []byte, at int) api.Errno {
	p, e := inPlace(b, at)
	if e != api.OK {
		return e
	}
	for i := range p {
		p[i] = 255
	}
	return api.OK
}

// SwapFrames exchanges the bytes of two frames.
func SwapFrames(b []byte, at, to int) api.Errno {
	p, e := inPlace(b, at)
	if e != api.OK {
		return e
	}
	q, e := inPlace(b, to)
	if e != api.OK {
		return e
	}
	if at-to < api.Bytes && to-at < api.Bytes {
		return api.ErrForm
	}
	*p, *q = *q, *p
	return api.OK
}

// Same reports whether two frames have equal bytes.
func Same(b []byte, at int, c []byte, to int) (bool, api.Errno) {
	if e := checkRoom(b, at, api.Bytes); e != api.OK {
		return false, e
	}
	if e := checkRoom(c, to, api.Bytes); e != api.OK {
		return false, e
	}
	return [api.Bytes]byte(b[at:]) == [api.Bytes]byte(c[to:]), api.OK
}

// Frames returns the frames from the beginning on, and how many bytes are left behind them.
func Frames(b []byte) ([]api.Frame, int) {
	frames := make([]api.Frame, len(b)/api.Bytes)
	for i := range frames {
		frames[i] = read((*[api.Bytes]byte)(b[i*api.Bytes:]))
	}
	return frames, len(b) % api.Bytes
}

// GetSecond reads the second at an offset.
func GetSecond(b []byte, at int) ([api.Second]api.Frame, api.Errno) {
	var l [api.Second]api.Frame
	if e := checkRoom(b, at, secondBytes); e != api.OK {
		return l, e
	}
	p := (*[secondBytes]byte)(b[at:])
	for i := range l {
		l[i] = read(frameOf(p, i))
	}
	return l, api.OK
}

// PutSecond writes a second at an offset.
func PutSecond(b []byte, at int, l [api.Second]api.Frame) api.Errno {
	if e := checkRoom(b, at, secondBytes); e != api.OK {
		return e
	}
	for i := range l { // all of them first: with an error nothing is written
		if isWide(l[i]) {
			return api.ErrRange
		}
	}
	p := (*[secondBytes]byte)(b[at:])
	for i := range l {
		write(frameOf(p, i), l[i])
	}
	return api.OK
}

// checkRoom asks for the length of b, not for its capacity: bytes behind the end are not given.
func checkRoom(b []byte, at, size int) api.Errno {
	if at < 0 {
		return api.ErrRange
	}
	if len(b)-at < size {
		return api.ErrSize
	}
	return api.OK
}

// inPlace takes the bytes of a frame as an array, without a copy.
func inPlace(b []byte, at int) (*[api.Bytes]byte, api.Errno) {
	if e := checkRoom(b, at, api.Bytes); e != api.OK {
		return nil, e
	}
	return (*[api.Bytes]byte)(b[at:]), api.OK
}

// frameOf takes the bytes of a frame of a second.
func frameOf(p *[secondBytes]byte, i int) *[api.Bytes]byte {
	return (*[api.Bytes]byte)(p[i*api.Bytes:])
}

func read(p *[api.Bytes]byte) api.Frame {
	var f api.Frame
	for i := range api.Words {
		f[i] = readWord(p, i)
	}
	return f
}

// write wants words of at most 12 bits.
func write(p *[api.Bytes]byte, f api.Frame) {
	for i := range api.Words {
		writeWord(p, i, f[i])
	}
}

func readWord(p *[api.Bytes]byte, i int) uint16 {
	k := i / 2 * 3
	if i%2 == 0 {
		return uint16(p[k])<<4 | uint16(p[k+1])>>4
	}
	return uint16(p[k+1]&15)<<8 | uint16(p[k+2])
}

// writeWord leaves the half of the middle byte alone that belongs to the other word.
func writeWord(p *[api.Bytes]byte, i int, w uint16) {
	k := i / 2 * 3
	if i%2 == 0 {
		p[k] = byte(w >> 4)
		p[k+1] = byte(w&15)<<4 | p[k+1]&15
		return
	}
	p[k+1] = p[k+1]&240 | byte(w>>8)
	p[k+2] = byte(w & 255)
}
