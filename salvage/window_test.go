package salvage_test

import (
	"fmt"
	"testing"

	"orangebox/api"
	"orangebox/frame"
	"orangebox/salvage"
)

// frameAt takes a frame from halves, three for each word.
func frameAt(halves []int, at int) (api.Frame, [api.Words]bool) {
	var f api.Frame
	var whole [api.Words]bool
	for i := range f {
		word := 0
		whole[i] = true
		for k := at + 3*i; k < at+3*i+3; k++ {
			if k < 0 || k >= len(halves) {
				whole[i] = false
				continue
			}
			word = word*16 + halves[k]
		}
		if whole[i] {
			f[i] = uint16(word)
		}
	}
	return f, whole
}

// soundIn looks for sound frames at each half.
func soundIn(halves []int) []api.Found {
	var l []api.Found
	for at := 0; at+salvage.Halves <= len(halves); at++ {
		if f, _ := frameAt(halves, at); len(frame.Flaws(f)) == 0 {
			l = append(l, api.Found{At: at, Frame: f})
		}
	}
	return l
}

// D2: the frame that begins at a half, also where halves are missing.
func TestFrameAt(t *testing.T) {
	r := dice(3)
	for _, n := range []int{0, 1, 2, 5, 191, 192, 193, 400} {
		for _, half := range []bool{false, true} {
			halves := make([]int, n)
			for i := range halves {
				halves[i] = r.IntN(16)
			}
			p := packed(halves, half)
			halves = halvesOf(p)
			for at := -191; at < len(halves); at++ {
				f, whole, e := salvage.FrameAt(p, at)
				name := fmt.Sprintf("FrameAt %d of %d", at, len(halves))
				wantErrno(t, name, e, api.OK)
				g, there := frameAt(halves, at)
				wantSame(t, name, f, g)
				wantSame(t, name+": words that are there", whole, there)
			}
			for _, at := range append(beyond(), -192, len(halves), len(halves)+1) {
				f, whole, e := salvage.FrameAt(p, at)
				wantErrno(t, fmt.Sprintf("FrameAt %d of %d", at, len(halves)), e, api.ErrRange)
				wantNothing(t, "FrameAt", f, whole)
			}
		}
	}
}

// D2: Scan finds a frame at each half, if all its halves are there.
func TestScan(t *testing.T) {
	f := numbered(t, 4000, 1)
	for ahead := range 5 {
		for _, half := range []bool{false, true} {
			halves := append(append(noise(ahead), spelt(f)...), noise(3)...)
			wantSame(t, "Scan", scanned(t, packed(halves, half)), []api.Found{{At: ahead, Frame: f}})
			short := halves[:ahead+191]
			if p := packed(short, half); len(halvesOf(p)) == len(short) {
				wantSame(t, "Scan where a half is missing", scanned(t, p), []api.Found{})
			}
		}
	}
	wantSame(t, "Scan of a frame and nothing else", scanned(t, packed(spelt(f), false)), []api.Found{{Frame: f}})
	wantSame(t, "Scan of a frame without its first half", scanned(t, packed(spelt(f)[1:], true)), []api.Found{})
	wantSame(t, "Scan of nothing", scanned(t, api.Piece{}), []api.Found{})
}

// D2: all kinds of sync words are found, and no frame that is not sound.
func TestScanSound(t *testing.T) {
	r := dice(4)
	for _, number := range []int{0, 1, 2, 3, 2047, 2048, 77777, api.Number - 1} {
		f := numbered(t, number, 2)
		wantSame(t, "Scan", scanned(t, packed(spaced(2, f, f), false)), []api.Found{{At: 0, Frame: f}, {At: 194, Frame: f}})
		for i := range api.Words {
			g := f
			g[i] ^= 1 << r.IntN(12)
			wantSame(t, fmt.Sprintf("Scan with word %d spoilt", i), scanned(t, packed(spelt(g), false)), []api.Found{})
			g[i] ^= 1 << r.IntN(12)
			if g != f {
				wantSame(t, fmt.Sprintf("Scan with word %d spoilt", i), scanned(t, packed(spelt(g), false)), []api.Found{})
			}
		}
	}
}

// D2: Scan against a look at each half, with frames anywhere and some of their halves changed.
func TestScanMany(t *testing.T) {
	r := dice(5)
	for range 30 {
		halves := jumbled(t, r, 12)
		p := packed(halves, r.IntN(2) == 0)
		wantSame(t, "Scan", scanned(t, p), soundIn(halvesOf(p)))
	}
}

// joint returns a frame, and another one that begins within it: the first one's last halves are the first halves of the other one.
func joint(t *testing.T, number, other, common int) []int {
	t.Helper()
	for salt := range 100000 {
		f := numbered(t, number, salt)
		h, g := spelt(f), spelt(numbered(t, other, salt))
		same := true
		for i := range common {
			same = same && h[192-common+i] == g[i]
		}
		if same {
			return append(h, g[common:]...)
		}
	}
	t.Fatal("there is no such frame")
	return nil
}

// D2: a place is certain if no other one is less than 192 halves away.
func TestCertain(t *testing.T) {
	for common := range 4 {
		halves := joint(t, 8, 1000, common)
		p := packed(halves, false)
		l := scanned(t, p)
		if len(l) != 2 || l[0].At != 0 || l[1].At != 192-common {
			t.Fatalf("two frames with %d halves in common: %v", common, l)
		}
		if common == 0 {
			wantSame(t, "Certain", certain(t, p), l)
			continue
		}
		wantSame(t, "Certain", certain(t, p), []api.Found{})
		third := spelt(numbered(t, 5, 0))
		p = packed(append(append(append([]int{}, third...), halves...), third...), true)
		wantSame(t, "Certain with others beside", len(scanned(t, p)), 4)
		wantSame(t, "Certain with others beside", certain(t, p), []api.Found{{At: 0, Frame: numbered(t, 5, 0)}, {At: 192 + len(halves), Frame: numbered(t, 5, 0)}})
	}
	f := numbered(t, 6, 0)
	wantSame(t, "Certain of one frame", certain(t, packed(spelt(f), true)), []api.Found{{Frame: f}})
	wantSame(t, "Certain of nothing", certain(t, api.Piece{}), []api.Found{})
}

// Z1: the greatest pieces can be scanned, also one in which a sync word seems to begin at each third half.
func TestScanOfMuch(t *testing.T) {
	p := api.Piece{Bytes: make([]byte, salvage.MaxBytes)}
	for i := range p.Bytes {
		p.Bytes[i] = []byte{0x24, 0x7D, 0xB8}[i%3]
	}
	wantSame(t, "Scan", scanned(t, p), soundIn(halvesOf(p)))
	f := numbered(t, 9, 0)
	b, _ := frame.ToBytes(f)
	copy(p.Bytes[salvage.MaxBytes-96:], b)
	wantSame(t, "Scan", scanned(t, p), []api.Found{{At: 2*salvage.MaxBytes - 192, Frame: f}})
}
