package layout_test

import (
	"math"
	"strconv"
	"strings"
	"testing"

	"orangebox/api"
	"orangebox/layout"
)

// slowValue reads a number from its bits as they are written.
func slowValue(kind int, digits string, names int) (int, bool) {
	n, _ := strconv.ParseInt(digits, 2, 64)
	rest, _ := strconv.ParseInt("0"+digits[1:], 2, 64)
	switch kind {
	case api.Signed:
		if digits[0] == '1' {
			return int(rest) - 1<<(len(digits)-1), true
		}
	case api.SignSize:
		if digits[0] == '1' {
			return -int(rest), rest != 0
		}
	case api.Decimal:
		v := 0
		for ; digits != ""; digits = digits[4:] {
			group, _ := strconv.ParseInt(digits[:4], 2, 64)
			if group > 9 {
				return 0, false
			}
			v = 10*v + int(group)
		}
		return v, true
	case api.Code:
		if int(n) >= names {
			return 0, false
		}
	}
	return int(n), true
}

func digitsOf(n, width int) string {
	s := strconv.FormatInt(int64(n), 2)
	return strings.Repeat("0", width-len(s)) + s
}

// B1: each raw number of few bits, of each kind.
func TestKindsOfFewBits(t *testing.T) {
	for bits := 1; bits <= 12; bits++ {
		for kind := api.Unsigned; kind <= api.Code; kind++ {
			p := wide(kind, bits)
			if layout.CheckParam(p) == api.OK {
				wantKind(t, p, bits)
			}
			if kind == api.Code {
				for _, n := range []int{1, 2, 3, 7, 8, 64} {
					if p.Names = names(n); n <= 1<<bits {
						wantKind(t, p, bits)
					}
				}
			}
		}
	}
}

func wantKind(t *testing.T, p api.Param, bits int) {
	t.Helper()
	least, greatest := math.MaxInt, math.MinInt
	for raw := range 1 << bits {
		v, good, e := layout.Decode(p, raw)
		want, wantGood := slowValue(p.Kind, digitsOf(raw, bits), len(p.Names))
		if !wantGood {
			want = 0
		}
		if e != api.OK || v != want || good != wantGood {
			t.Fatalf("kind %d, %d bits: Decode(%d) is %d, %v, %d, want %d, %v", p.Kind, bits, raw, v, good, e, want, wantGood)
		}
		if !good {
			continue
		}
		least, greatest = min(least, v), max(greatest, v)
		if back, e := layout.Encode(p, v); e != api.OK || back != raw {
			t.Fatalf("kind %d, %d bits: Encode(%d) is %d, %d, want %d", p.Kind, bits, v, back, e, raw)
		}
	}
	wantRange(t, p, least, greatest)
	wantNoRaw(t, p, bits)
}

func wantRange(t *testing.T, p api.Param, least, greatest int) {
	t.Helper()
	low, high, e := layout.Range(p)
	wantErrno(t, "Range", e, api.OK)
	if low != least || high != greatest {
		t.Errorf("kind %d: Range is %d, %d, want %d, %d", p.Kind, low, high, least, greatest)
	}
	for _, v := range []int{math.MinInt, least - 1, greatest + 1, math.MaxInt} {
		raw, e := layout.Encode(p, v)
		wantErrno(t, "Encode of "+strconv.Itoa(v), e, api.ErrRange)
		wantNothing(t, "Encode", raw)
	}
}

func wantNoRaw(t *testing.T, p api.Param, bits int) {
	t.Helper()
	for _, raw := range []int{math.MinInt, -1, 1 << bits, 1<<bits + 1, math.MaxInt} {
		v, good, e := layout.Decode(p, raw)
		wantErrno(t, "Decode of "+strconv.Itoa(raw), e, api.ErrRange)
		wantNothing(t, "Decode", v, good)
	}
}

// B1
func TestKindsOfManyBits(t *testing.T) {
	for _, c := range []struct {
		kind, least, greatest int
		v, raw                int
	}{
		{api.Unsigned, 0, 1<<40 - 1, 1<<40 - 1, 1<<40 - 1},
		{api.Signed, -1 << 39, 1<<39 - 1, -1, 1<<40 - 1},
		{api.Signed, -1 << 39, 1<<39 - 1, -1 << 39, 1 << 39},
		{api.SignSize, 1 - 1<<39, 1<<39 - 1, -1, 1<<39 + 1},
		{api.SignSize, 1 - 1<<39, 1<<39 - 1, 1 - 1<<39, 1<<40 - 1},
		{api.Decimal, 0, 9999999999, 9876543210, 0x9876543210},
		{api.Decimal, 0, 9999999999, 7, 7},
	} {
		p := wide(c.kind, 40)
		wantRange(t, p, c.least, c.greatest)
		wantNoRaw(t, p, 40)
		raw, e := layout.Encode(p, c.v)
		wantErrno(t, "Encode", e, api.OK)
		v, good, e := layout.Decode(p, c.raw)
		wantErrno(t, "Decode", e, api.OK)
		if raw != c.raw || v != c.v || !good {
			t.Errorf("kind %d: %d is %d, want %d; back %d, %v", c.kind, c.v, raw, c.raw, v, good)
		}
	}
	for _, c := range []struct{ kind, raw int }{
		{api.SignSize, 1 << 39},
		{api.Decimal, 0xA000000000},
		{api.Decimal, 0x000000000A},
		{api.Decimal, 0x00000F0000},
		{api.Code, 2},
		{api.Code, 1<<40 - 1},
	} {
		p := wide(c.kind, 40)
		if c.kind == api.Code {
			p.Names = names(2)
		}
		v, good, e := layout.Decode(p, c.raw)
		wantErrno(t, "Decode", e, api.OK)
		wantNothing(t, "Decode of no value", v, good)
	}
}
