package ring_test

import (
	"bytes"
	"math"
	"math/rand/v2"
	"reflect"
	"slices"
	"testing"

	"orangebox/api"
	"orangebox/frame"
	"orangebox/ring"
)

// dice gives the same numbers in each run.
func dice(seed uint64) *rand.Rand {
	return rand.New(rand.NewPCG(seed, 3))
}

// beyond has numbers that are in no range of the document.
func beyond() []int {
	return []int{math.MinInt, math.MinInt + 1, -1 << 32, -97, -1, 1<<32 + 1, math.MaxInt - 96, math.MaxInt}
}

func wantErrno(t *testing.T, name string, got, want api.Errno) {
	t.Helper()
	if got != want {
		t.Errorf("%s: error %d, want %d", name, got, want)
	}
}

func wantSame(t *testing.T, name string, got, want any) {
	t.Helper()
	if !reflect.DeepEqual(got, want) {
		t.Errorf("%s: got %v, want %v", name, got, want)
	}
}

// wantNothing wants zero values, or empty lists.
func wantNothing(t *testing.T, name string, results ...any) {
	t.Helper()
	for _, r := range results {
		v := reflect.ValueOf(r)
		if !v.IsZero() && (v.Kind() != reflect.Slice || v.Len() > 0) {
			t.Errorf("%s: got %v, want nothing", name, r)
		}
	}
}

// numbered is the sound frame with a number and some data, which are the same for equal salt.
func numbered(t *testing.T, number, salt int) api.Frame {
	t.Helper()
	r := dice(uint64(number)<<20 + uint64(salt))
	data := make([]int, 58)
	for i := range data {
		data[i] = r.IntN(2048)
	}
	f, e := frame.New(number, data)
	wantErrno(t, "frame.New", e, api.OK)
	return f
}

// run is frames with consecutive numbers.
func run(t *testing.T, first, n int) []api.Frame {
	t.Helper()
	var l []api.Frame
	for i := range n {
		l = append(l, numbered(t, first+i, 0))
	}
	return l
}

func fresh(t *testing.T, sectors, slots, limit int) api.Memory {
	t.Helper()
	m, e := ring.NewMemory(sectors, slots, limit)
	wantErrno(t, "NewMemory", e, api.OK)
	return m
}

// several is new memories of one size.
func several(t *testing.T, n, sectors, slots, limit int) []api.Memory {
	t.Helper()
	var l []api.Memory
	for range n {
		l = append(l, fresh(t, sectors, slots, limit))
	}
	return l
}

func copyOf(m api.Memory) api.Memory {
	m.Sectors = slices.Clone(m.Sectors)
	for i, s := range m.Sectors {
		m.Sectors[i] = bytes.Clone(s)
	}
	m.Wear, m.Bad = slices.Clone(m.Wear), slices.Clone(m.Bad)
	return m
}

func copyOfAll(l []api.Memory) []api.Memory {
	var c []api.Memory
	for _, m := range l {
		c = append(c, copyOf(m))
	}
	return c
}

// putHead writes the first ten bytes of a head as the document tells them.
func putHead(s []byte, sequence int) {
	n := uint32(sequence)
	four := []byte{byte(n >> 24), byte(n >> 16), byte(n >> 8), byte(n)}
	copy(s, []byte{79, 66})
	copy(s[2:], four)
	for i, b := range four {
		s[6+i] = 255 - b
	}
}

// putSlot writes a frame and its mark.
func putSlot(t *testing.T, s []byte, slot int, f api.Frame, mark byte) {
	t.Helper()
	at := 16 + 97*slot
	wantErrno(t, "frame.Put", frame.Put(s, at, f), api.OK)
	s[at+96] = mark
}

func mounted(t *testing.T, l []api.Memory, copies int) *ring.Recorder {
	t.Helper()
	r, e := ring.Mount(l, copies)
	wantErrno(t, "Mount", e, api.OK)
	return r
}

// recorded records frames with all power.
func recorded(t *testing.T, r *ring.Recorder, l ...api.Frame) {
	t.Helper()
	for i, f := range l {
		_, done, e := r.Record(f, ring.MaxPower)
		if !done || e != api.OK {
			t.Fatalf("Record %d: %v, error %d", i, done, e)
		}
	}
}

func framesOf(t *testing.T, l []api.Memory) []api.Frame {
	t.Helper()
	f, e := ring.Frames(l)
	wantErrno(t, "Frames", e, api.OK)
	return f
}

// numbersOf also wants each frame to be the one that was recorded with its number.
func numbersOf(t *testing.T, l []api.Frame) []int {
	t.Helper()
	var n []int
	for _, f := range l {
		k, ok := frame.Number(f)
		if !ok || f != numbered(t, k, 0) {
			t.Errorf("the frame %d is not the one that was recorded", k)
		}
		n = append(n, k)
	}
	return n
}
