package salvage_test

import (
	"fmt"
	"slices"
	"testing"

	"orangebox/api"
	"orangebox/salvage"
)

// D1: what is wrong with a piece.
func TestCheckPiece(t *testing.T) {
	for name, w := range wrong() {
		wantErrno(t, name, salvage.CheckPiece(w.piece), w.errno)
	}
	for name, p := range map[string]api.Piece{
		"nothing":                {},
		"an empty list":          {Bytes: []byte{}},
		"a byte":                 {Bytes: []byte{255}},
		"half a byte":            {Bytes: []byte{15}, Half: true},
		"half a byte and more":   {Bytes: []byte{0, 255}, Half: true},
		"as many bytes as can":   {Bytes: slices.Repeat([]byte{255}, salvage.MaxBytes)},
		"half a byte less":       {Bytes: make([]byte, salvage.MaxBytes), Half: true},
		"a capacity behind them": {Bytes: make([]byte, 2, salvage.MaxBytes+1)},
	} {
		wantErrno(t, name, salvage.CheckPiece(p), api.OK)
	}
}

// D1: functions with pieces first return the error of a piece.
func TestWrongPieces(t *testing.T) {
	fine := api.Piece{Bytes: []byte{1, 2}}
	for name, w := range wrong() {
		n, e := salvage.Length(w.piece)
		wantErrno(t, "Length of "+name, e, w.errno)
		h, e := salvage.HalfAt(w.piece, -1)
		wantErrno(t, "HalfAt of "+name, e, w.errno)
		c, e := salvage.Cut(w.piece, -1, -1)
		wantErrno(t, "Cut of "+name, e, w.errno)
		j, e := salvage.Join(w.piece, fine)
		wantErrno(t, "Join of "+name, e, w.errno)
		k, e := salvage.Join(fine, w.piece)
		wantErrno(t, "Join with "+name, e, w.errno)
		f, whole, e := salvage.FrameAt(w.piece, -1000)
		wantErrno(t, "FrameAt of "+name, e, w.errno)
		s, e := salvage.Scan(w.piece)
		wantErrno(t, "Scan of "+name, e, w.errno)
		l, e := salvage.Certain(w.piece)
		wantErrno(t, "Certain of "+name, e, w.errno)
		r, e := salvage.Rests(w.piece)
		wantErrno(t, "Rests of "+name, e, w.errno)
		a, e := salvage.Salvage([]api.Piece{fine, w.piece})
		wantErrno(t, "Salvage of "+name, e, w.errno)
		o, ok, e := salvage.Overlap(w.piece, fine, 0)
		wantErrno(t, "Overlap of "+name, e, w.errno)
		q, more, e := salvage.Overlap(fine, w.piece, 0)
		wantErrno(t, "Overlap with "+name, e, w.errno)
		wantNothing(t, name, n, h, c, j, k, f, whole, s, l, r, a, o, ok, q, more)
	}
	first, second := wrong()["too many bytes"], wrong()["a half of no bytes"]
	_, e := salvage.Join(first.piece, second.piece)
	wantErrno(t, "Join of two wrong ones", e, api.ErrSize)
	_, e = salvage.Join(second.piece, first.piece)
	wantErrno(t, "Join of two wrong ones", e, api.ErrForm)
	_, e = salvage.Salvage([]api.Piece{second.piece, first.piece})
	wantErrno(t, "Salvage of two wrong ones", e, api.ErrForm)
	_, _, e = salvage.Overlap(second.piece, first.piece, 1)
	wantErrno(t, "Overlap of two wrong ones", e, api.ErrForm)
}

// D1: a list has at most so many pieces, which is asked first.
func TestTooManyPieces(t *testing.T) {
	l := make([]api.Piece, salvage.MaxPieces)
	wantNothing(t, "Salvage of empty pieces", salvaged(t, l...))
	r, e := salvage.Salvage(append(l, api.Piece{Half: true}))
	wantErrno(t, "Salvage of too many", e, api.ErrSize)
	wantNothing(t, "Salvage of too many", r)
	wantNothing(t, "Salvage of no pieces", salvaged(t))
}

// D1: halves of a piece, of each byte first the high one.
func TestHalves(t *testing.T) {
	r := dice(1)
	for round := range 60 {
		halves := make([]int, r.IntN(12))
		for i := range halves {
			halves[i] = r.IntN(16)
		}
		p := packed(halves, round%2 == 1)
		want := halvesOf(p)
		n, e := salvage.Length(p)
		wantErrno(t, "Length", e, api.OK)
		wantSame(t, "Length", n, len(want))
		for i, h := range want {
			got, e := salvage.HalfAt(p, i)
			wantErrno(t, "HalfAt", e, api.OK)
			wantSame(t, fmt.Sprintf("half %d of %v", i, p), got, h)
		}
		for _, i := range append(beyond(), -1, len(want)) {
			h, e := salvage.HalfAt(p, i)
			wantErrno(t, "HalfAt", e, api.ErrRange)
			wantNothing(t, "HalfAt", h)
		}
	}
}

// D1: a cut has the halves from one on, before another one, and one half 0 if it ends within a byte.
func TestCut(t *testing.T) {
	r := dice(2)
	for round := range 20 {
		halves := make([]int, 1+r.IntN(10))
		for i := range halves {
			halves[i] = 1 + r.IntN(15)
		}
		p := packed(halves, round%2 == 1)
		l := halvesOf(p)
		for from := range len(l) + 1 {
			for to := from; to <= len(l); to++ {
				checkCut(t, p, l, from, to)
			}
		}
	}
}

func checkCut(t *testing.T, p api.Piece, l []int, from, to int) {
	t.Helper()
	c, e := salvage.Cut(p, from, to)
	name := fmt.Sprintf("Cut of %v from %d to %d", p, from, to)
	wantErrno(t, name, e, api.OK)
	wantErrno(t, name, salvage.CheckPiece(c), api.OK)
	want := slices.Clone(l[from:to])
	low := (from%2 == 1) != p.Half && from < to
	if (to%2 == 1) != p.Half && from < to {
		want = append(want, 0)
	}
	wantSame(t, name, halvesOf(c), want)
	wantSame(t, name+": Half", c.Half, low)
	if from == to {
		wantNothing(t, name, c.Bytes)
	}
}

// D1: what cannot be cut.
func TestCutRange(t *testing.T) {
	for _, p := range []api.Piece{{}, {Bytes: []byte{1, 2}}, {Bytes: []byte{1, 2}, Half: true}} {
		n := len(halvesOf(p))
		wrong := [][2]int{{-1, 0}, {-1, n}, {n + 1, n + 1}, {0, n + 1}, {n, n + 1}, {1, 0}, {n, n - 1}, {-2, -1}}
		for _, b := range beyond() {
			wrong = append(wrong, [2]int{b, n}, [2]int{0, b}, [2]int{b, b})
		}
		for _, w := range wrong {
			c, e := salvage.Cut(p, w[0], w[1])
			wantErrno(t, fmt.Sprintf("Cut from %d to %d of %d", w[0], w[1], n), e, api.ErrRange)
			wantNothing(t, "Cut", c)
		}
	}
}

// D1: Join lays bytes behind bytes.
func TestJoin(t *testing.T) {
	a, half := api.Piece{Bytes: []byte{0x12, 0x30}}, api.Piece{Bytes: []byte{4, 0x56}, Half: true}
	j, e := salvage.Join(a, api.Piece{Bytes: []byte{0x70}})
	wantErrno(t, "Join", e, api.OK)
	wantSame(t, "Join", j, api.Piece{Bytes: []byte{0x12, 0x30, 0x70}})
	j, e = salvage.Join(half, a)
	wantErrno(t, "Join", e, api.OK)
	wantSame(t, "Join", j, api.Piece{Bytes: []byte{4, 0x56, 0x12, 0x30}, Half: true})
	j, e = salvage.Join(half, api.Piece{})
	wantErrno(t, "Join with nothing", e, api.OK)
	wantSame(t, "Join with nothing", j, half)
	j, e = salvage.Join(api.Piece{}, a)
	wantErrno(t, "Join of nothing", e, api.OK)
	wantSame(t, "Join of nothing", j, a)
	j, e = salvage.Join(api.Piece{}, api.Piece{})
	wantErrno(t, "Join of nothing with nothing", e, api.OK)
	wantNothing(t, "Join of nothing with nothing", j.Bytes, j.Half)
	for _, p := range []api.Piece{{}, a, half} {
		j, e = salvage.Join(p, half)
		wantErrno(t, "Join with half a byte", e, api.ErrForm)
		wantNothing(t, "Join with half a byte", j)
	}
}

// D1: how many bytes can be joined.
func TestJoinSize(t *testing.T) {
	most := api.Piece{Bytes: make([]byte, salvage.MaxBytes)}
	one := api.Piece{Bytes: make([]byte, 1)}
	j, e := salvage.Join(api.Piece{Bytes: most.Bytes[1:]}, one)
	wantErrno(t, "Join of as much as can be", e, api.OK)
	wantSame(t, "Join of as much as can be", len(j.Bytes), salvage.MaxBytes)
	for _, l := range [][2]api.Piece{{most, one}, {one, most}, {most, most}} {
		j, e := salvage.Join(l[0], l[1])
		wantErrno(t, "Join of too much", e, api.ErrSize)
		wantNothing(t, "Join of too much", j)
	}
	_, e = salvage.Join(most, api.Piece{Bytes: []byte{1}, Half: true})
	wantErrno(t, "Join of too much, with half a byte", e, api.ErrForm)
}

// D1: what is cut and joined shares no memory with the pieces, and their capacity stays as it is.
func TestPiecesAreCopied(t *testing.T) {
	room := []byte{1, 2, 3, 4, 5, 6, 7, 8}
	p, q := api.Piece{Bytes: room[:2]}, api.Piece{Bytes: room[4:6]}
	j, _ := salvage.Join(p, q)
	c, _ := salvage.Cut(p, 0, 4)
	d, _ := salvage.Cut(p, 1, 3)
	o, _ := salvage.Join(p, api.Piece{})
	n, _ := salvage.Join(api.Piece{}, p)
	wantSame(t, "what was given", room, []byte{1, 2, 3, 4, 5, 6, 7, 8})
	for _, r := range []api.Piece{j, c, d, o, n} {
		b := r.Bytes[:cap(r.Bytes)]
		for i := range b {
			b[i] = 255
		}
	}
	wantSame(t, "what was given", room, []byte{1, 2, 3, 4, 5, 6, 7, 8})
}
