package frame_test

import (
	"encoding/binary"
	"hash/fnv"
	"slices"
	"testing"

	"orangebox/api"
	"orangebox/frame"
)

func wantFlaws(t *testing.T, name string, f api.Frame, want ...api.Flaw) {
	t.Helper()
	if got := frame.Flaws(f); !slices.Equal(got, want) {
		t.Errorf("%s: flaws %v, want %v", name, got, want)
	}
	if got := frame.Sound(f); got != (len(want) == 0) {
		t.Errorf("%s: sound is %v with the flaws %v", name, got, want)
	}
}

// A3
func TestFlawsOfSoundFrames(t *testing.T) {
	for _, f := range someFrames(t, 100) {
		wantFlaws(t, "sound", f)
	}
}

// A3: each kind alone.
func TestFlawsOneByOne(t *testing.T) {
	f := someFrames(t, 1)[0]
	g := f
	g[0] ^= 1
	g[62], g[63] = checkWords(g)
	wantFlaws(t, "sync", g, api.Flaw{Word: 0, Kind: api.FlawSync})
	g = f
	g[5] ^= 2048
	g[62], g[63] = checkWords(g)
	wantFlaws(t, "parity", g, api.Flaw{Word: 5, Kind: api.FlawParity})
	g = f
	g[61] ^= 3
	g[62], g[63] = checkWords(g)
	wantFlaws(t, "sum", g, api.Flaw{Word: 61, Kind: api.FlawSum})
	for _, i := range []int{62, 63} {
		g = f
		g[i] ^= 3
		wantFlaws(t, "check", g, api.Flaw{Word: 62, Kind: api.FlawCheck})
		g = f
		g[i] ^= 2048
		wantFlaws(t, "parity of the check", g, api.Flaw{Word: i, Kind: api.FlawParity})
	}
}

func checkWords(f api.Frame) (high, low uint16) {
	check := slowCheck(f)
	return slowWord(check >> 11), slowWord(check & 2047)
}

// A3: all kinds but FlawWide, in the order of the document.
func TestFlawsTogether(t *testing.T) {
	var none api.Frame
	want := []api.Flaw{{Word: 0, Kind: api.FlawSync}}
	for i := 1; i < 64; i++ {
		want = append(want, api.Flaw{Word: i, Kind: api.FlawParity})
	}
	wantFlaws(t, "zeros", none, want...)
	f := slowFrame(5, make([]int, 58))
	f[0] = 583
	f[7] ^= 1
	f[63] ^= 1
	wantFlaws(t, "many", f,
		api.Flaw{Word: 0, Kind: api.FlawSync}, api.Flaw{Word: 7, Kind: api.FlawParity}, api.Flaw{Word: 63, Kind: api.FlawParity},
		api.Flaw{Word: 61, Kind: api.FlawSum}, api.Flaw{Word: 62, Kind: api.FlawCheck})
}

// A3: the sync word is that for the data of the words 1 and 2, whatever their parity.
func TestFlawSyncAsksForDataOnly(t *testing.T) {
	f := slowFrame(6, make([]int, 58))
	f[1] ^= 2048
	f[2] ^= 2048
	f[62], f[63] = checkWords(f)
	wantFlaws(t, "parities of the number", f, api.Flaw{Word: 1, Kind: api.FlawParity}, api.Flaw{Word: 2, Kind: api.FlawParity})
	f = slowFrame(6, make([]int, 58))
	f[1] ^= 1
	f[61] = slowWord(7)
	f[62], f[63] = checkWords(f)
	wantFlaws(t, "another number", f, api.Flaw{Word: 0, Kind: api.FlawSync}, api.Flaw{Word: 1, Kind: api.FlawParity})
}

// A3: with a word above 4095 nothing else is looked at.
func TestFlawWide(t *testing.T) {
	for i := range api.Words {
		for _, w := range []uint16{4096, 4097, 65535} {
			f := someFrames(t, 1)[0]
			f[i] = w
			wantFlaws(t, "wide", f, api.Flaw{Word: i, Kind: api.FlawWide})
		}
	}
	var f api.Frame
	f[0], f[17], f[63] = 65535, 4096, 32768
	wantFlaws(t, "three wide", f,
		api.Flaw{Word: 0, Kind: api.FlawWide}, api.Flaw{Word: 17, Kind: api.FlawWide}, api.Flaw{Word: 63, Kind: api.FlawWide})
	f = someFrames(t, 1)[0]
	f[20] = 4095
	if slices.Contains(frame.Flaws(f), api.Flaw{Word: 20, Kind: api.FlawWide}) {
		t.Error("4095 is called too wide")
	}
}

// A3: what follows, for each bit and each two.
func TestOneOrTwoChangedBitsAreNoticed(t *testing.T) {
	f := someFrames(t, 3)[2]
	for i := range 768 {
		g := f
		flip(&g, i)
		if isSound(g) {
			t.Fatalf("bit %d is not noticed", i)
		}
		for k := range i {
			h := g
			flip(&h, k)
			if isSound(h) {
				t.Fatalf("bits %d and %d are not noticed", k, i)
			}
		}
	}
}

// A3: what follows, for three bits by chance, and for all three of some words.
func TestThreeChangedBitsAreNoticed(t *testing.T) {
	c := chance(5)
	f := someFrame(t, &c)
	try := func(x, y, z int) {
		if x == y || y == z || x == z {
			return
		}
		g := f
		flip(&g, x)
		flip(&g, y)
		flip(&g, z)
		if isSound(g) {
			t.Fatalf("bits %d, %d and %d are not noticed", x, y, z)
		}
	}
	for range 100000 {
		try(c.below(768), c.below(768), c.below(768))
	}
	for x := range 36 {
		for y := range x {
			for z := range y {
				try(x, y, z)
				try(732+x, 732+y, 732+z)
			}
		}
	}
}

// A4
func TestMendOfSoundFrames(t *testing.T) {
	for _, f := range someFrames(t, 20) {
		g, places, ok := frame.Mend(f)
		if g != f || len(places) != 0 || !ok {
			t.Fatalf("Mend of a sound frame: %v, %v, %v", g, places, ok)
		}
	}
}

// A4: whatever is put in the place of a word, it is put right.
func TestMendOfOneSpoiltWord(t *testing.T) {
	c := chance(6)
	for i := range api.Words {
		f := someFrame(t, &c)
		wrong := []uint16{f[i] ^ 1, f[i] ^ 3, f[i] ^ 2048, f[i] ^ 2049, f[i] ^ 4095, 0, 4095}
		for range 10 {
			wrong = append(wrong, uint16(c.below(4096)))
		}
		for _, w := range wrong {
			g := f
			g[i] = w
			if g == f {
				continue
			}
			h, places, ok := frame.Mend(g)
			if h != f || !slices.Equal(places, []int{i}) || !ok {
				t.Fatalf("word %d as %d: Mend gives %v, %v", i, w, places, ok)
			}
		}
	}
}

// A4: a word above 4095 is not mended, though it is the only one.
func TestMendOfWideWords(t *testing.T) {
	for i := range api.Words {
		f := someFrames(t, 1)[0]
		f[i] |= 4096
		wantNotMended(t, f)
	}
	var f api.Frame
	f[63] = 65535
	wantNotMended(t, f)
}

func wantNotMended(t *testing.T, f api.Frame) {
	t.Helper()
	if g, places, ok := frame.Mend(f); g != (api.Frame{}) || len(places) != 0 || ok {
		t.Errorf("Mend(%v) = %v, %v, %v", f, g, places, ok)
	}
}

// A4: frames with several spoilt words, held against all words in all places.
func TestMendAgainstAllWords(t *testing.T) {
	c := chance(7)
	f := someFrame(t, &c)
	l := []api.Frame{{}, f, f, f, f, f, f}
	l[1][3] ^= 3
	l[1][4] ^= 3 // the sum is right
	l[2][20] ^= 5
	l[2][40] ^= 6
	l[3][0] ^= 1
	l[3][63] ^= 3
	l[4][2] ^= 3
	l[5][0] ^= 1
	l[5][62], l[5][63] = checkWords(l[5]) // only the sync word is wrong
	l[6] = l[5]
	l[6][62] ^= 3
	for _, f := range l {
		want, places := slowMend(f)
		g, got, ok := frame.Mend(f)
		if g != want || !slices.Equal(got, places) || ok != (len(places) == 1) {
			t.Errorf("Mend(%v) = %v, %v, want %v", f, got, ok, places)
		}
	}
}

func slowMend(f api.Frame) (api.Frame, []int) {
	var mended api.Frame
	var places []int
	for i := range api.Words {
		for w := range 4096 {
			g := f
			g[i] = uint16(w)
			if g != f && isSound(g) {
				mended = g
				places = append(places, i)
			}
		}
	}
	if len(places) != 1 {
		return api.Frame{}, nil
	}
	return mended, places
}

// A4: with two spoilt words of even parity each nothing is mended.
func TestMendOfTwoSpoiltWords(t *testing.T) {
	c := chance(8)
	f := someFrame(t, &c)
	for range 300 {
		i, k := c.below(63)+1, c.below(63)+1
		if i == k {
			continue
		}
		g := f
		g[i] ^= 1 << c.below(12)
		g[k] ^= 1 << c.below(12)
		wantNotMended(t, g)
	}
}

// A3
func TestDistance(t *testing.T) {
	l := someFrames(t, 2)
	f := l[0]
	if n := frame.Distance(f, f); n != 0 {
		t.Errorf("Distance to itself = %d", n)
	}
	g := f
	g[0] ^= 1
	g[30] ^= 4096 | 2048
	g[63] ^= 65535
	if n := frame.Distance(f, g); n != 19 {
		t.Errorf("Distance = %d, want 19", n)
	}
	if frame.Distance(f, l[1]) != frame.Distance(l[1], f) {
		t.Error("Distance depends on the order")
	}
	full := api.Frame{}
	for i := range full {
		full[i] = 65535
	}
	if n := frame.Distance(api.Frame{}, full); n != 1024 {
		t.Errorf("Distance = %d, want 1024", n)
	}
}

// A4: the digest is well known under another name.
func TestHash(t *testing.T) {
	l := someFrames(t, 20)
	wide := l[0]
	for i := range wide {
		wide[i] = uint16(i * 1040)
	}
	for _, f := range append(l, wide, api.Frame{}) {
		h := fnv.New64a()
		for _, w := range f {
			h.Write(binary.BigEndian.AppendUint16(nil, w))
		}
		if want := api.Digest(h.Sum(nil)); frame.Hash(f) != want {
			t.Fatalf("Hash(%v) = %v, want %v", f, frame.Hash(f), want)
		}
	}
}
