package frame_test

import (
	"math"
	"slices"
	"testing"

	"orangebox/api"
	"orangebox/frame"
)

// A2
func TestNewBuildsTheWordsOfTheDocument(t *testing.T) {
	c := chance(1)
	for _, n := range []int{0, 1, 2, 3, 2047, 2048, 2049, 123456, api.Number - 1} {
		data := someData(&c)
		data[0], data[57] = 0, 2047
		f, e := frame.New(n, data)
		wantErrno(t, "New", e, api.OK)
		if want := slowFrame(n, data); f != want {
			t.Errorf("New(%d) = %v, want %v", n, f, want)
		}
	}
	zeros, _ := frame.New(0, make([]int, 58))
	if zeros[0] != 583 || zeros[1] != 2048 || zeros[60] != 2048 || zeros[61] != 2048 {
		t.Errorf("New(0, zeros) = %v", zeros)
	}
}

// A2: the errors, and which one comes first.
func TestNewErrors(t *testing.T) {
	good := make([]int, 58)
	with := func(i, v int) []int {
		l := slices.Clone(good)
		l[i] = v
		return l
	}
	tests := []struct {
		name   string
		number int
		data   []int
		want   api.Errno
	}{
		{"negative number", -1, good, api.ErrRange},
		{"number too large", api.Number, good, api.ErrRange},
		{"least number", math.MinInt, good, api.ErrRange},
		{"number ahead of size", api.Number, nil, api.ErrRange},
		{"no data", 0, nil, api.ErrSize},
		{"one too few", 0, good[:57], api.ErrSize},
		{"one too many", 0, make([]int, 59), api.ErrSize},
		{"size ahead of data", 0, []int{-1}, api.ErrSize},
		{"negative data", 0, with(0, -1), api.ErrRange},
		{"data too large", 0, with(57, 2048), api.ErrRange},
		{"data far too large", 0, with(30, 65536), api.ErrRange},
	}
	for _, x := range tests {
		f, e := frame.New(x.number, x.data)
		wantErrno(t, x.name, e, x.want)
		if f != (api.Frame{}) {
			t.Errorf("%s: a frame with an error", x.name)
		}
	}
}

// Z2
func TestNewLeavesItsArgumentAlone(t *testing.T) {
	c := chance(2)
	all := append(someData(&c), 7, 8, 9)
	before := slices.Clone(all)
	frame.New(5, all[:58])
	if !slices.Equal(all, before) {
		t.Error("New changed its argument")
	}
}

// A2
func TestSealKeepsData(t *testing.T) {
	c := chance(3)
	for range 200 {
		var f api.Frame
		for i := range f {
			f[i] = uint16(c.below(4096))
		}
		s, e := frame.Seal(f)
		wantErrno(t, "Seal", e, api.OK)
		data := make([]int, 58)
		for i := range data {
			data[i] = int(f[3+i] % 2048)
		}
		if want := slowFrame(int(f[1]%2048)+int(f[2]%2048)*2048, data); s != want {
			t.Fatalf("Seal(%v) = %v, want %v", f, s, want)
		}
	}
}

// A2
func TestSealDoesNotChangeWhatNewReturns(t *testing.T) {
	for _, f := range someFrames(t, 50) {
		if s, e := frame.Seal(f); s != f || e != api.OK {
			t.Fatalf("Seal changed %v", f)
		}
	}
}

// A2: also the words that Seal makes anew count.
func TestSealErrors(t *testing.T) {
	for i := range api.Words {
		for _, w := range []uint16{4096, 65535} {
			f := someFrames(t, 1)[0]
			f[i] = w
			s, e := frame.Seal(f)
			wantErrno(t, "Seal", e, api.ErrRange)
			if s != (api.Frame{}) {
				t.Errorf("Seal with word %d = %d: a frame with an error", i, w)
			}
		}
	}
}

// A2
func TestNumber(t *testing.T) {
	for _, n := range []int{0, 1, 2047, 2048, 4095, api.Number - 1} {
		f, _ := frame.New(n, make([]int, 58))
		f[0], f[3], f[61], f[62] = 65535, 65535, 1, 1 // the other words do not count
		if got, ok := frame.Number(f); got != n || !ok {
			t.Errorf("Number = %d, %v, want %d", got, ok, n)
		}
	}
}

// A2
func TestNumberOfSpoiltWords(t *testing.T) {
	whole, _ := frame.New(2049, make([]int, 58))
	for i := 1; i <= 2; i++ {
		for _, change := range []uint16{1, 2048, 4096 | 1, 4096, 32768, 8192 | 4096} {
			f := whole
			f[i] ^= change
			if n, ok := frame.Number(f); n != 0 || ok {
				t.Errorf("word %d changed by %d: Number = %d, %v", i, change, n, ok)
			}
		}
	}
}

// A2
func TestValues(t *testing.T) {
	c := chance(4)
	data := someData(&c)
	f, _ := frame.New(77, data)
	f[0], f[1], f[2], f[61], f[62], f[63] = 65535, 0, 0, 0, 0, 0 // these do not count
	f[3] ^= 1
	f[60] ^= 2048
	f[10] = 4096
	f[11] = 65535
	f[12] = 4097
	wantData := slices.Clone(data)
	wantTold := slices.Repeat([]bool{true}, 58)
	wantData[0] ^= 1
	wantData[7], wantData[8], wantData[9] = 0, 0, 0
	for _, i := range []int{0, 57, 7, 8, 9} {
		wantTold[i] = false
	}
	values, told := frame.Values(f)
	if !slices.Equal(values, wantData) || !slices.Equal(told, wantTold) {
		t.Errorf("Values = %v, %v, want %v, %v", values, told, wantData, wantTold)
	}
}
