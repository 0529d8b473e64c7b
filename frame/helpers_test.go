package frame_test

import (
	"math"
	"math/bits"
	"strconv"
	"strings"
	"testing"

	"orangebox/api"
	"orangebox/frame"
)

// chance gives the same numbers in each run.
type chance uint64

func (c *chance) below(n int) int {
	*c = *c*6364136223846793005 + 1442695040888963407
	return int(uint64(*c)>>33) % n
}

// beyond has numbers that are out of every range of indices.
func beyond() []int {
	return []int{math.MinInt, -97, -96, -1, math.MaxInt - 95, math.MaxInt}
}

func someData(c *chance) []int {
	data := make([]int, 58)
	for i := range data {
		data[i] = c.below(2048)
	}
	return data
}

func someFrame(t *testing.T, c *chance) api.Frame {
	t.Helper()
	f, e := frame.New(c.below(api.Number), someData(c))
	if e != api.OK {
		t.Fatalf("New: error %d", e)
	}
	return f
}

func someFrames(t *testing.T, n int) []api.Frame {
	t.Helper()
	c := chance(n)
	l := make([]api.Frame, n)
	for i := range l {
		l[i] = someFrame(t, &c)
	}
	return l
}

func wantErrno(t *testing.T, name string, got, want api.Errno) {
	t.Helper()
	if got != want {
		t.Errorf("%s: error %d, want %d", name, got, want)
	}
}

// slowWord finds a word by counting on.
func slowWord(data int) uint16 {
	if bits.OnesCount(uint(data))%2 == 0 {
		return uint16(data + 2048)
	}
	return uint16(data)
}

// slowCheck divides by the polynomial as on paper.
func slowCheck(f api.Frame) int {
	var digits strings.Builder
	for _, w := range f[:62] {
		digits.WriteString(bitsOf(int(w), 12))
	}
	digits.WriteString(strings.Repeat("0", 22))
	l := []byte(digits.String())
	for i := range len(l) - 22 {
		if l[i] == '0' {
			continue
		}
		for _, power := range []int{22, 21, 3, 2, 1, 0} {
			l[i+22-power] ^= 1
		}
	}
	n, _ := strconv.ParseInt(string(l[len(l)-22:]), 2, 64)
	return int(n)
}

func bitsOf(n, width int) string {
	s := strconv.FormatInt(int64(n), 2)
	return strings.Repeat("0", width-len(s)) + s
}

// slowFrame builds a frame from the words of the document.
func slowFrame(number int, data []int) api.Frame {
	var f api.Frame
	f[0] = [...]uint16{583, 1464, 2631, 3512}[number%4]
	f[1] = slowWord(number & 2047)
	f[2] = slowWord(number >> 11)
	sum := number&2047 ^ number>>11
	for i, d := range data {
		f[3+i] = slowWord(d)
		sum ^= d
	}
	f[61] = slowWord(sum)
	check := slowCheck(f)
	f[62] = slowWord(check >> 11)
	f[63] = slowWord(check & 2047)
	return f
}

// flip changes a bit; they are counted from the highest one of word 0 on.
func flip(f *api.Frame, bit int) {
	f[bit/12] ^= 1 << (11 - bit%12)
}

func isSound(f api.Frame) bool {
	return len(frame.Flaws(f)) == 0
}
