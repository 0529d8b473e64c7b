package frame_test

import (
	"math"
	"math/bits"
	"testing"

	"orangebox/api"
	"orangebox/frame"
)

// A1
func TestWordHasDataAndOddOnes(t *testing.T) {
	for data := range 2048 {
		w, e := frame.Word(data)
		wantErrno(t, "Word", e, api.OK)
		if w&2047 != data || w < 0 || w > 4095 || bits.OnesCount(uint(w))%2 != 1 {
			t.Fatalf("Word(%d) = %d", data, w)
		}
	}
	if w, _ := frame.Word(0); w != 2048 {
		t.Errorf("Word(0) = %d, want 2048", w)
	}
	if w, _ := frame.Word(1); w != 1 {
		t.Errorf("Word(1) = %d, want 1", w)
	}
}

// A1
func TestWordErrors(t *testing.T) {
	for _, data := range []int{math.MinInt, -2048, -1, 2048, 4095, 65536, 1 << 32, math.MaxInt} {
		w, e := frame.Word(data)
		wantErrno(t, "Word", e, api.ErrRange)
		if w != 0 {
			t.Errorf("Word(%d) = %d with an error", data, w)
		}
	}
}

// A1
func TestDataOfEachWord(t *testing.T) {
	for w := range 4096 {
		data, odd, e := frame.Data(w)
		wantErrno(t, "Data", e, api.OK)
		if data != w%2048 || odd != (bits.OnesCount(uint(w))%2 == 1) {
			t.Fatalf("Data(%d) = %d, %v", w, data, odd)
		}
	}
}

// A1
func TestDataErrors(t *testing.T) {
	for _, w := range []int{math.MinInt, -1, 4096, 65537, 1<<32 + 1, math.MaxInt} {
		data, odd, e := frame.Data(w)
		wantErrno(t, "Data", e, api.ErrRange)
		if data != 0 || odd {
			t.Errorf("Data(%d) = %d, %v with an error", w, data, odd)
		}
	}
}

// A2
func TestSync(t *testing.T) {
	words := []int{583, 1464, 2631, 3512}
	for _, n := range []int{0, 1, 2, 3, 4, 5, 6, 7, 2047, 2048, api.Number - 2, api.Number - 1} {
		w, e := frame.Sync(n)
		wantErrno(t, "Sync", e, api.OK)
		if w != words[n%4] {
			t.Errorf("Sync(%d) = %d, want %d", n, w, words[n%4])
		}
	}
	for _, n := range []int{math.MinInt, -4, -1, api.Number, math.MaxInt} {
		w, e := frame.Sync(n)
		wantErrno(t, "Sync", e, api.ErrRange)
		if w != 0 {
			t.Errorf("Sync(%d) = %d with an error", n, w)
		}
	}
}
