package ring_test

import (
	"bytes"
	"testing"

	"orangebox/api"
	"orangebox/ring"
)

// slowPut writes bit by bit.
func slowPut(s []byte, at int, data []byte, power int) (int, bool) {
	for i, b := range data {
		half := 8
		if power == 0 {
			half = 4
		}
		for bit := range half {
			mask := byte(128) >> bit
			if b&mask == 0 && s[at+i]&mask != 0 {
				s[at+i] -= mask
			}
		}
		if power == 0 {
			return 0, false
		}
		power--
	}
	return power, true
}

// C2: bytes become the bits that both have, as long as power lasts, and no other bytes change.
func TestPutBytes(t *testing.T) {
	r := dice(1)
	for range 3000 {
		whole := make([]byte, 12)
		for i := range whole {
			whole[i] = byte(r.IntN(256))
		}
		n := r.IntN(9)
		at := r.IntN(n + 1)
		data := make([]byte, r.IntN(n-at+1), 12)
		for i := range data {
			data[i] = byte(r.IntN(256))
		}
		power := r.IntN(10)
		want, given := bytes.Clone(whole), bytes.Clone(data[:12])
		wantLeft, wantDone := slowPut(want[:n], at, data, power)
		left, done, e := ring.PutBytes(whole[:n], at, data, power)
		wantErrno(t, "PutBytes", e, api.OK)
		if left != wantLeft || done != wantDone || !bytes.Equal(whole, want) {
			t.Fatalf("PutBytes at %d, power %d: %v %d %v, want %v %d %v", at, power, whole, left, done, want, wantLeft, wantDone)
		}
		if !bytes.Equal(data[:12], given) {
			t.Fatalf("PutBytes changed its data")
		}
	}
}

// C2: of the torn byte the high half is written, the low half stays.
func TestPutBytesTorn(t *testing.T) {
	for c := range 256 {
		for b := range 256 {
			s := []byte{byte(c), 171, 205}
			left, done, e := ring.PutBytes(s, 0, []byte{byte(b), 0}, 0)
			want := []byte{byte(c)&byte(b)&240 | byte(c)&15, 171, 205}
			if left != 0 || done || e != api.OK || !bytes.Equal(s, want) {
				t.Fatalf("%d onto %d: %v %d %v %d, want %v", b, c, s, left, done, e, want)
			}
		}
	}
}

// C2: as much power as there are bytes is enough; nothing is done for no bytes.
func TestPutBytesPower(t *testing.T) {
	for _, x := range []struct {
		at   int
		data []byte
		p    int
		want []byte
		left int
		done bool
	}{
		{0, []byte{1, 2, 3}, 3, []byte{1, 2, 3}, 0, true},
		{0, []byte{1, 2, 3}, 2, []byte{1, 2, 15}, 0, false},
		{0, []byte{1, 2, 3}, ring.MaxPower, []byte{1, 2, 3}, ring.MaxPower - 3, true},
		{3, nil, 0, []byte{255, 255, 255}, 0, true},
		{0, []byte{}, 4, []byte{255, 255, 255}, 4, true},
		{2, []byte{9}, 1, []byte{255, 255, 9}, 0, true},
	} {
		s := []byte{255, 255, 255}
		left, done, e := ring.PutBytes(s, x.at, x.data, x.p)
		wantErrno(t, "PutBytes", e, api.OK)
		wantSame(t, "PutBytes", []any{s, left, done}, []any{x.want, x.left, x.done})
	}
}

// C2: what is written is what the data were, also if they lie in the sector.
func TestPutBytesFromSector(t *testing.T) {
	s := []byte{7, 14, 28, 255}
	_, done, e := ring.PutBytes(s, 1, s[:3], 9)
	wantSame(t, "PutBytes", []any{s, done, e}, []any{[]byte{7, 14 & 7, 28 & 14, 28}, true, api.OK})
}

// C2: errors, in their order; nothing changes, also not behind the end.
func TestPutBytesErrors(t *testing.T) {
	type call struct {
		at, n, power int
		want         api.Errno
	}
	calls := []call{
		{-1, 9, 9, api.ErrRange}, {0, 9, -1, api.ErrRange}, {0, 1, ring.MaxPower + 1, api.ErrRange}, {9, 1, -1, api.ErrRange},
		{0, 5, 9, api.ErrSize}, {1, 4, 9, api.ErrSize}, {4, 1, 9, api.ErrSize}, {5, 0, 9, api.ErrSize}, {5, 1, 0, api.ErrSize},
	}
	for _, n := range beyond() {
		want := api.ErrRange
		if n >= 0 {
			want = api.ErrSize
		}
		calls = append(calls, call{n, 0, 1, want}, call{n, 1, 1, want}, call{0, 1, n, api.ErrRange})
	}
	for _, x := range calls {
		whole := bytes.Repeat([]byte{255}, 8)
		left, done, e := ring.PutBytes(whole[:4], x.at, make([]byte, x.n), x.power)
		wantErrno(t, "PutBytes", e, x.want)
		wantNothing(t, "PutBytes", left, done)
		wantSame(t, "sector", whole, bytes.Repeat([]byte{255}, 8))
	}
}

// C2: one step erases a sector; without power the first half of its bytes is erased.
func TestClearSector(t *testing.T) {
	for n := range 8 {
		for _, power := range []int{0, 1, 2, ring.MaxPower} {
			whole := []byte{1, 2, 3, 4, 5, 6, 7, 8, 9, 10}
			want := bytes.Clone(whole)
			end := n
			if power == 0 {
				end = n / 2
			}
			for i := range end {
				want[i] = 255
			}
			left, done, e := ring.ClearSector(whole[:n], power)
			wantErrno(t, "ClearSector", e, api.OK)
			wantSame(t, "ClearSector", []any{whole, left, done}, []any{want, max(power-1, 0), power > 0})
		}
	}
}

// C2: power beyond its range changes nothing.
func TestClearSectorErrors(t *testing.T) {
	for _, power := range append(beyond(), ring.MaxPower+1) {
		s := []byte{1, 2, 3}
		left, done, e := ring.ClearSector(s, power)
		wantErrno(t, "ClearSector", e, api.ErrRange)
		wantNothing(t, "ClearSector", left, done)
		wantSame(t, "sector", s, []byte{1, 2, 3})
	}
}
