package frame_test

import (
	"bytes"
	"math"
	"slices"
	"strconv"
	"strings"
	"testing"

	"orangebox/api"
	"orangebox/frame"
)

// slowBytes writes all bits, one behind the other, and cuts them anew.
func slowBytes(f api.Frame) []byte {
	var s strings.Builder
	for _, w := range f {
		s.WriteString(bitsOf(int(w), 12))
	}
	var out []byte
	for digits := range slices.Chunk([]byte(s.String()), 8) {
		n, _ := strconv.ParseUint(string(digits), 2, 8)
		out = append(out, byte(n))
	}
	return out
}

func wideFrames(t *testing.T) []api.Frame {
	var l []api.Frame
	for i := range api.Words {
		f := someFrames(t, 1)[0]
		f[i] = 4096
		l = append(l, f)
		f[i] = 65535
		l = append(l, f)
	}
	return l
}

// ground is bytes of which none is what is written over it, and room behind their end.
func ground(size int) (b, whole []byte) {
	whole = bytes.Repeat([]byte{0xA5, 0x3C, 0x96}, size/3+200)
	return whole[:size], whole
}

// A5
func TestToBytesAndFromBytes(t *testing.T) {
	for _, f := range append(someFrames(t, 50), api.Frame{}) {
		b, e := frame.ToBytes(f)
		wantErrno(t, "ToBytes", e, api.OK)
		if !bytes.Equal(b, slowBytes(f)) {
			t.Fatalf("ToBytes(%v) = %v", f, b)
		}
		g, e := frame.FromBytes(append(b, 1, 2, 3))
		wantErrno(t, "FromBytes", e, api.OK)
		if g != f {
			t.Fatalf("FromBytes gives %v, want %v", g, f)
		}
	}
	example, _ := frame.New(0, make([]int, 58))
	b, _ := frame.ToBytes(example)
	if !bytes.Equal(b[:3], []byte{36, 120, 0}) {
		t.Errorf("the example begins with %v", b[:3])
	}
}

// A5
func TestToBytesAndFromBytesErrors(t *testing.T) {
	for _, f := range wideFrames(t) {
		b, e := frame.ToBytes(f)
		wantErrno(t, "ToBytes", e, api.ErrRange)
		if len(b) != 0 {
			t.Fatal("ToBytes: bytes with an error")
		}
	}
	for _, n := range []int{0, 1, 95} {
		f, e := frame.FromBytes(bytes.Repeat([]byte{1}, 200)[:n])
		wantErrno(t, "FromBytes", e, api.ErrSize)
		if f != (api.Frame{}) {
			t.Error("FromBytes: a frame with an error")
		}
	}
}

// Z2: what ToBytes returns is new each time.
func TestToBytesIsNewMemory(t *testing.T) {
	f := someFrames(t, 1)[0]
	a, _ := frame.ToBytes(f)
	b, _ := frame.ToBytes(f)
	a[0] ^= 255
	if !bytes.Equal(b, slowBytes(f)) {
		t.Error("two results share memory")
	}
}

// A5
func TestGetAndPut(t *testing.T) {
	for _, at := range []int{0, 1, 2, 3, 50, 104} {
		f := someFrames(t, at+1)[at]
		b, whole := ground(200)
		want := bytes.Clone(whole)
		copy(want[at:], slowBytes(f))
		wantErrno(t, "Put", frame.Put(b, at, f), api.OK)
		if !bytes.Equal(whole, want) {
			t.Fatalf("Put at %d: other bytes than it names", at)
		}
		g, e := frame.Get(b, at)
		wantErrno(t, "Get", e, api.OK)
		if g != f || !bytes.Equal(whole, want) {
			t.Fatalf("Get at %d = %v", at, g)
		}
	}
}

// A5: the error for at, of all functions that take a frame in place.
func TestPlaceErrors(t *testing.T) {
	f := someFrames(t, 1)[0]
	for _, size := range []int{0, 95, 96, 200} {
		b, whole := ground(size)
		before := bytes.Clone(whole)
		for _, at := range append(beyond(), size-95, size-1, size, size+1, size+100) {
			want := api.ErrSize
			if at < 0 {
				want = api.ErrRange
			}
			for name, e := range placeErrors(b, at, f) {
				wantErrno(t, name+" of "+strconv.Itoa(size)+" at "+strconv.Itoa(at), e, want)
			}
		}
		if !bytes.Equal(whole, before) {
			t.Errorf("bytes were written with an error")
		}
	}
}

// placeErrors has other errors too where it can: the one for at comes first.
func placeErrors(b []byte, at int, f api.Frame) map[string]api.Errno {
	other := bytes.Repeat([]byte{1}, 300)
	wide := f
	wide[9] = 4096
	errors := map[string]api.Errno{}
	_, errors["Get"] = frame.Get(b, at)
	errors["Put"] = frame.Put(b, at, f)
	errors["Put wide"] = frame.Put(b, at, wide)
	_, errors["WordAt"] = frame.WordAt(b, at, 0)
	_, errors["WordAt 64"] = frame.WordAt(b, at, 64)
	errors["SetWord"] = frame.SetWord(b, at, 0, 0)
	errors["SetWord 64"] = frame.SetWord(b, at, 64, 4096)
	errors["ClearFrame"] = frame.ClearFrame(b, at)
	errors["SwapFrames"] = frame.SwapFrames(b, at, 0)
	errors["SwapFrames itself"] = frame.SwapFrames(b, at, at)
	_, errors["Same"] = frame.Same(b, at, other, 0)
	_, errors["Same to"] = frame.Same(other, 0, b, at)
	_, errors["GetSecond"] = frame.GetSecond(b, at)
	errors["PutSecond"] = frame.PutSecond(b, at, [api.Second]api.Frame{f})
	errors["PutSecond wide"] = frame.PutSecond(b, at, [api.Second]api.Frame{wide})
	return errors
}

// Z3
func TestNoResultsWithPlaceErrors(t *testing.T) {
	b := bytes.Repeat([]byte{7}, 200)
	for _, at := range []int{-1, 105} {
		f, _ := frame.Get(b, at)
		w, _ := frame.WordAt(b, at, 0)
		same, _ := frame.Same(b, at, b, 0)
		if f != (api.Frame{}) || w != 0 || same {
			t.Errorf("at %d: results with an error", at)
		}
	}
}

// A5
func TestPutOfWideFrames(t *testing.T) {
	for _, f := range wideFrames(t) {
		b, whole := ground(200)
		before := bytes.Clone(whole)
		wantErrno(t, "Put", frame.Put(b, 7, f), api.ErrRange)
		if !bytes.Equal(whole, before) {
			t.Fatal("Put wrote with an error")
		}
	}
}

// A5: each word alone; the half byte of its neighbour stays.
func TestWordAtAndSetWord(t *testing.T) {
	f := someFrames(t, 1)[0]
	for i := range api.Words {
		for _, w := range []int{0, 1, 15, 16, 255, 256, 0xABC, 2048, 4095} {
			b, whole := ground(200)
			frame.Put(b, 11, f)
			before := bytes.Clone(whole)
			got, e := frame.WordAt(b, 11, i)
			wantErrno(t, "WordAt", e, api.OK)
			if got != int(f[i]) || !bytes.Equal(whole, before) {
				t.Fatalf("WordAt %d = %d, want %d", i, got, f[i])
			}
			g := f
			g[i] = uint16(w)
			copy(before[11:], slowBytes(g))
			wantErrno(t, "SetWord", frame.SetWord(b, 11, i, w), api.OK)
			if !bytes.Equal(whole, before) {
				t.Fatalf("SetWord %d to %d", i, w)
			}
		}
	}
}

// A5
func TestWordAtAndSetWordErrors(t *testing.T) {
	b, whole := ground(200)
	before := bytes.Clone(whole)
	for _, i := range []int{math.MinInt, -1, 64, math.MaxInt} {
		w, e := frame.WordAt(b, 0, i)
		wantErrno(t, "WordAt", e, api.ErrRange)
		if w != 0 {
			t.Error("WordAt: a word with an error")
		}
		wantErrno(t, "SetWord", frame.SetWord(b, 0, i, 5), api.ErrRange)
	}
	for _, w := range []int{math.MinInt, -1, 4096, 65536, math.MaxInt} {
		wantErrno(t, "SetWord", frame.SetWord(b, 0, 5, w), api.ErrRange)
	}
	if !bytes.Equal(whole, before) {
		t.Error("SetWord wrote with an error")
	}
}

// A5
func TestClearFrame(t *testing.T) {
	for _, at := range []int{0, 33, 104} {
		b, whole := ground(200)
		want := bytes.Clone(whole)
		copy(want[at:], bytes.Repeat([]byte{255}, 96))
		wantErrno(t, "ClearFrame", frame.ClearFrame(b, at), api.OK)
		if !bytes.Equal(whole, want) {
			t.Errorf("ClearFrame at %d", at)
		}
	}
}

// A5
func TestSwapFrames(t *testing.T) {
	for _, x := range [][2]int{{0, 96}, {96, 0}, {5, 204}, {204, 5}, {100, 4}} {
		b, whole := ground(300)
		for i := range b {
			b[i] = byte(i * 7)
		}
		want := bytes.Clone(whole)
		copy(want[x[0]:x[0]+96], b[x[1]:])
		copy(want[x[1]:x[1]+96], b[x[0]:])
		wantErrno(t, "SwapFrames", frame.SwapFrames(b, x[0], x[1]), api.OK)
		if !bytes.Equal(whole, want) {
			t.Errorf("SwapFrames %v", x)
		}
	}
}

// A5: the errors for at come ahead of those for to, and both ahead of ErrForm.
func TestSwapFramesErrors(t *testing.T) {
	tests := []struct {
		at, to int
		want   api.Errno
	}{
		{0, 0, api.ErrForm}, {0, 95, api.ErrForm}, {95, 0, api.ErrForm}, {104, 104, api.ErrForm}, {50, 51, api.ErrForm},
		{0, -1, api.ErrRange}, {0, 105, api.ErrSize}, {104, 105, api.ErrSize},
		{-1, 105, api.ErrRange}, {105, -1, api.ErrSize}, {-1, -1, api.ErrRange}, {105, 105, api.ErrSize},
		{0, math.MaxInt, api.ErrSize}, {math.MinInt, math.MaxInt, api.ErrRange},
	}
	for _, x := range tests {
		b, whole := ground(200)
		before := bytes.Clone(whole)
		wantErrno(t, "SwapFrames "+strconv.Itoa(x.at)+" "+strconv.Itoa(x.to), frame.SwapFrames(b, x.at, x.to), x.want)
		if !bytes.Equal(whole, before) {
			t.Error("SwapFrames wrote with an error")
		}
	}
}

// A5
func TestSame(t *testing.T) {
	b := make([]byte, 200)
	c := make([]byte, 150)
	for i := range 96 {
		b[100+i], c[9+i] = byte(i+1), byte(i+1)
	}
	b[99], b[196], c[8], c[105] = 1, 2, 3, 4 // bytes beside the frames do not count
	if ok, e := frame.Same(b, 100, c, 9); !ok || e != api.OK {
		t.Errorf("Same = %v, %d", ok, e)
	}
	for i := range 96 {
		c[9+i] ^= 128
		if ok, e := frame.Same(b, 100, c, 9); ok || e != api.OK {
			t.Errorf("Same with another byte %d = %v, %d", i, ok, e)
		}
		c[9+i] ^= 128
	}
	if ok, e := frame.Same(b, 50, b, 50); !ok || e != api.OK {
		t.Errorf("Same of one place = %v, %d", ok, e)
	}
}

// A5: errors for the first place, then for the second one.
func TestSameErrors(t *testing.T) {
	b := make([]byte, 96)
	tests := []struct {
		at, to int
		want   api.Errno
	}{
		{-1, 1, api.ErrRange}, {1, -1, api.ErrSize}, {0, -1, api.ErrRange}, {0, 1, api.ErrSize}, {-1, -1, api.ErrRange},
	}
	for _, x := range tests {
		ok, e := frame.Same(b, x.at, b, x.to)
		wantErrno(t, "Same", e, x.want)
		if ok {
			t.Error("Same: true with an error")
		}
	}
}

// A6
func TestFrames(t *testing.T) {
	l := someFrames(t, 3)
	var all []byte
	for _, f := range l {
		all = append(all, slowBytes(f)...)
	}
	for n := range len(all) + 1 {
		before := bytes.Clone(all)
		got, rest := frame.Frames(all[:n])
		if !slices.Equal(got, l[:n/96]) || rest != n%96 || !bytes.Equal(all, before) {
			t.Fatalf("Frames of %d bytes: %d frames, %d left", n, len(got), rest)
		}
	}
	if got, rest := frame.Frames(nil); len(got) != 0 || rest != 0 {
		t.Error("Frames of nothing")
	}
}

// A6
func TestSeconds(t *testing.T) {
	for _, at := range []int{0, 1, 232} {
		l := [api.Second]api.Frame(someFrames(t, 8))
		b, whole := ground(1000)
		want := bytes.Clone(whole)
		for i, f := range l {
			copy(want[at+96*i:], slowBytes(f))
		}
		wantErrno(t, "PutSecond", frame.PutSecond(b, at, l), api.OK)
		if !bytes.Equal(whole, want) {
			t.Fatalf("PutSecond at %d", at)
		}
		got, e := frame.GetSecond(b, at)
		wantErrno(t, "GetSecond", e, api.OK)
		if got != l {
			t.Fatalf("GetSecond at %d", at)
		}
	}
}

// A6: with an error nothing is written, also not the frames ahead of a wide one.
func TestSecondErrors(t *testing.T) {
	l := [api.Second]api.Frame(someFrames(t, 8))
	b, whole := ground(1000)
	before := bytes.Clone(whole)
	for _, at := range append(beyond(), 233, 999, 1000, 1001) {
		want := api.ErrSize
		if at < 0 {
			want = api.ErrRange
		}
		got, e := frame.GetSecond(b, at)
		wantErrno(t, "GetSecond", e, want)
		if got != ([api.Second]api.Frame{}) {
			t.Error("GetSecond: frames with an error")
		}
		wantErrno(t, "PutSecond", frame.PutSecond(b, at, l), want)
	}
	for i := range l {
		wide := l
		wide[i][63] = 4096
		wantErrno(t, "PutSecond", frame.PutSecond(b, 0, wide), api.ErrRange)
		wantErrno(t, "PutSecond", frame.PutSecond(b, -1, wide), api.ErrRange)
		wantErrno(t, "PutSecond", frame.PutSecond(b, 233, wide), api.ErrSize)
	}
	if !bytes.Equal(whole, before) {
		t.Error("PutSecond wrote with an error")
	}
}
