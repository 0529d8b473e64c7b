package salvage_test

import (
	"fmt"
	"slices"
	"testing"

	"orangebox/api"
	"orangebox/ring"
	"orangebox/salvage"
)

// filled returns a memory with bytes of any kind.
func filled(t *testing.T, seed uint64, sectors, slots int) api.Memory {
	t.Helper()
	m, e := ring.NewMemory(sectors, slots, 10)
	wantErrno(t, "NewMemory", e, api.OK)
	r := dice(seed)
	for _, s := range m.Sectors {
		for i := range s {
			s[i] = byte(r.IntN(256))
		}
	}
	return m
}

// imageOf returns all halves of memories.
func imageOf(l []api.Memory) []int {
	var h []int
	for _, m := range l {
		for _, s := range m.Sectors {
			h = append(h, halvesOf(api.Piece{Bytes: s})...)
		}
	}
	return h
}

func piecesOf(t *testing.T, l []api.Memory, cuts ...int) []api.Piece {
	t.Helper()
	p, e := salvage.Pieces(l, cuts)
	wantErrno(t, "Pieces", e, api.OK)
	return p
}

// D5: memories are cut anywhere, sector behind sector, also bad ones.
func TestPieces(t *testing.T) {
	l := []api.Memory{filled(t, 20, 2, 1), filled(t, 21, 3, 2)}
	l[1].Bad[1] = true
	image := imageOf(l)
	n := len(image)
	r := dice(13)
	for range 100 {
		cuts := make([]int, r.IntN(10))
		for i := range cuts {
			cuts[i] = r.IntN(n + 1)
		}
		slices.Sort(cuts)
		if len(cuts) > 2 {
			cuts[1] = cuts[0]
		}
		var want []api.Piece
		ends := append([]int{0}, append(slices.Clone(cuts), n)...)
		for i := range ends[1:] {
			if from, to := ends[i], ends[i+1]; from < to {
				want = append(want, packed(image[from:to], from%2 == 1))
			}
		}
		wantSame(t, fmt.Sprint("Pieces by ", cuts), piecesOf(t, l, cuts...), want)
	}
	whole := []api.Piece{packed(image, false)}
	for _, cuts := range [][]int{nil, {0}, {n}, {0, 0, n, n}} {
		wantSame(t, fmt.Sprint("Pieces by ", cuts), piecesOf(t, l, cuts...), whole)
	}
}

// D5: what is wrong with cuts, in the order of the document.
func TestWrongCuts(t *testing.T) {
	l := []api.Memory{filled(t, 22, 2, 1)}
	n := len(imageOf(l))
	many := make([]int, salvage.MaxPieces-1)
	for i := range many {
		many[i] = i + 1
	}
	wantSame(t, "as many pieces as can be", len(piecesOf(t, l, many...)), salvage.MaxPieces)
	for name, c := range map[string]struct {
		cuts  []int
		errno api.Errno
	}{
		"too many":              {append(many, n), api.ErrSize},
		"too many, and a wrong": {append([]int{-1}, many...), api.ErrSize},
		"negative":              {[]int{-1}, api.ErrRange},
		"beyond the end":        {[]int{n + 1}, api.ErrRange},
		"falling":               {[]int{5, 4}, api.ErrOrder},
		"falling, then range":   {[]int{5, 4, n + 1}, api.ErrOrder},
		"range, then falling":   {[]int{5, n + 1, 4}, api.ErrRange},
		"range and falling":     {[]int{5, -1}, api.ErrRange},
	} {
		p, e := salvage.Pieces(l, c.cuts)
		wantErrno(t, name, e, c.errno)
		wantNothing(t, name, p)
	}
	for _, b := range beyond() {
		_, e := salvage.Pieces(l, []int{b})
		wantErrno(t, fmt.Sprintf("a cut at %d", b), e, api.ErrRange)
	}
}

// D5: memories with errors.
func TestWrongMemories(t *testing.T) {
	fine := filled(t, 23, 2, 1)
	short := filled(t, 24, 2, 1)
	short.Sectors[1] = short.Sectors[1][1:]
	for name, c := range map[string]struct {
		list  []api.Memory
		errno api.Errno
	}{
		"none":             {nil, api.ErrSize},
		"too many":         {make([]api.Memory, ring.MaxMemories+1), api.ErrSize},
		"a zero memory":    {[]api.Memory{fine, {}}, api.ErrRange},
		"a short sector":   {[]api.Memory{fine, short, {}}, api.ErrSize},
		"without its wear": {[]api.Memory{{Slots: 1, Limit: 1, Sectors: fine.Sectors}}, api.ErrForm},
	} {
		p, e := salvage.Pieces(c.list, []int{-1})
		wantErrno(t, name, e, c.errno)
		wantNothing(t, name, p)
	}
}

// D5: a piece of memories has at most so many bytes, a half at an end counted as one.
func TestPiecesSize(t *testing.T) {
	l := []api.Memory{filled(t, 25, 64, 64)}
	const most = 2 * salvage.MaxBytes
	n := len(imageOf(l))
	for _, cuts := range [][]int{{most}, {n - most}, {1, most}, {n - most, n - 1}} {
		wantSame(t, fmt.Sprint("Pieces by ", cuts), len(piecesOf(t, l, cuts...)), len(cuts)+1)
	}
	for _, cuts := range [][]int{nil, {0}, {most + 1}, {n - most - 1}, {1, most + 1}, {n - most - 1, n - 1}} {
		p, e := salvage.Pieces(l, cuts)
		wantErrno(t, fmt.Sprint("Pieces by ", cuts), e, api.ErrSize)
		wantNothing(t, "Pieces", p)
	}
	_, e := salvage.Pieces(l, []int{most + 1, 5})
	wantErrno(t, "cuts that fall, and too much", e, api.ErrOrder)
}

// D5: pieces share no memory with sectors.
func TestPiecesOfMemoriesAreCopied(t *testing.T) {
	l := []api.Memory{filled(t, 26, 2, 1)}
	before := imageOf(l)
	for _, p := range piecesOf(t, l, 7, 300) {
		for i := range p.Bytes[:cap(p.Bytes)] {
			p.Bytes[:cap(p.Bytes)][i] = 1
		}
	}
	wantSame(t, "the memory", imageOf(l), before)
}

// D3, D4: memories that were written, cut and torn: what is found is what was recorded, and nothing else.
func TestCrash(t *testing.T) {
	r := dice(14)
	for round := range 12 {
		l, last := flown(t, 50+round)
		n := len(imageOf(l))
		cuts := make([]int, 30)
		for i := range cuts {
			cuts[i] = r.IntN(n)
		}
		slices.Sort(cuts)
		pieces := piecesOf(t, l, cuts...)
		pieces = slices.DeleteFunc(pieces, func(api.Piece) bool { return r.IntN(4) == 0 })
		kept, _ := ring.Frames(l)
		rests := salvaged(t, pieces...)
		sound := 0
		for _, rest := range rests {
			wantErrno(t, "CheckRest", salvage.CheckRest(rest), api.OK)
			if !rest.Sound {
				continue // words can be right by chance where no frame begins
			}
			sound++
			if rest.Number < 9000 || rest.Number > last || rest.Frame != numbered(t, rest.Number, 0) {
				t.Errorf("the frame %d is not what was recorded", rest.Number)
			}
		}
		if sound < len(kept)/2 {
			t.Errorf("%d of %d frames are sound", sound, len(kept))
		}
	}
}

// flown returns memories into which frames were recorded, and the number of the last one.
func flown(t *testing.T, frames int) ([]api.Memory, int) {
	t.Helper()
	l := []api.Memory{filled(t, 30, 4, 16), filled(t, 31, 3, 8), filled(t, 32, 3, 8)}
	rec, e := ring.Mount(l, 2)
	wantErrno(t, "Mount", e, api.OK)
	for n := range frames {
		_, _, e := rec.Record(numbered(t, 9000+n, 0), ring.MaxPower)
		wantErrno(t, "Record", e, api.OK)
	}
	return rec.Memories(), 9000 + frames - 1
}
