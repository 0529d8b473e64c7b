// Package frame has words and frames: how they lie in bytes, and what can be wrong with them.
package frame

import "orangebox/api"

const (
	lowNumber  = 1 // the word with the low bits of the number
	highNumber = 2
	firstData  = 3
	dataWords  = api.Last - firstData + 1
	sumWord    = 61
	highCheck  = 62
	lowCheck   = 63
)

const (
	checkBits  = 22
	polynomial = 1<<22 | 1<<21 | 1<<3 | 1<<2 | 1<<1 | 1
)

// New returns the sound frame with a number and the data of the words 3 to 60.
func New(number int, data []int) (api.Frame, api.Errno) {
	if number < 0 || number >= api.Number {
		return api.Frame{}, api.ErrRange
	}
	if len(data) != dataWords {
		return api.Frame{}, api.ErrSize
	}
	var f api.Frame
	f[lowNumber] = uint16(number % dataLimit)
	f[highNumber] = uint16(number / dataLimit)
	for i, d := range data {
		if d < 0 || d >= dataLimit {
			return api.Frame{}, api.ErrRange
		}
		f[firstData+i] = uint16(d)
	}
	return sealed(f), api.OK
}

// Seal returns the sound frame with the data of the words 1 to 60 of f.
func Seal(f api.Frame) (api.Frame, api.Errno) {
	if isWide(f) {
		return api.Frame{}, api.ErrRange
	}
	return sealed(f), api.OK
}

// Number returns the number of a frame, if the parities of its words are right.
func Number(f api.Frame) (int, bool) {
	if !isTold(f[lowNumber]) || !isTold(f[highNumber]) {
		return 0, false
	}
	return numberOf(f), true
}

// Values returns the data of the words 3 to 60, and which of them have a right parity.
func Values(f api.Frame) ([]int, []bool) {
	values := make([]int, dataWords)
	told := make([]bool, dataWords)
	for i := range dataWords {
		w := f[firstData+i]
		if w < wordLimit {
			values[i] = int(dataOf(w))
		}
		told[i] = isTold(w)
	}
	return values, told
}

// sealed asks nothing of f: the bits 11 of its words, and all bits above, are made anew.
func sealed(f api.Frame) api.Frame {
	f[0] = syncFor(numberOf(f))
	for i := lowNumber; i <= api.Last; i++ {
		f[i] = withParity(f[i])
	}
	f[sumWord] = withParity(sumOf(f))
	high, low := checkWords(f)
	f[highCheck], f[lowCheck] = high, low
	return f
}

// numberOf does not look at parities.
func numberOf(f api.Frame) int {
	return int(dataOf(f[lowNumber])) + int(dataOf(f[highNumber]))*dataLimit
}

func sumOf(f api.Frame) uint16 {
	sum := uint16(0)
	for i := lowNumber; i <= api.Last; i++ {
		sum ^= dataOf(f[i])
	}
	return sum
}

// checkOf wants words of at most 12 bits.
func checkOf(f api.Frame) uint32 {
	rest := uint32(0)
	for i := range highCheck {
		rest ^= uint32(f[i]) << (checkBits - wordBits)
		for range wordBits {
			top := rest >> (checkBits - 1)
			rest = rest<<1 ^ top*polynomial // the bit that leaves at the top is one of the polynomial too
		}
	}
	return rest
}

func checkWords(f api.Frame) (high, low uint16) {
	check := checkOf(f)
	return withParity(uint16(check >> dataBits)), withParity(uint16(check % dataLimit))
}
