package frame

import (
	"math/bits"

	"orangebox/api"
)

const (
	dataBits  = 11
	wordBits  = 12
	dataLimit = 1 << dataBits // data are below it
	wordLimit = 1 << wordBits // words are below it
)

// syncs has the sync words for numbers that leave 0, 1, 2 or 3 when divided by 4.
var syncs = [4]uint16{583, 1464, 2631, 3512}

// Word returns the word with some data.
func Word(data int) (int, api.Errno) {
	if data < 0 || data >= dataLimit {
		return 0, api.ErrRange
	}
	return int(withParity(uint16(data))), api.OK
}

// Data returns the data of a word, and whether its parity is right.
func Data(word int) (int, bool, api.Errno) {
	if word < 0 || word >= wordLimit {
		return 0, false, api.ErrRange
	}
	w := uint16(word)
	return int(dataOf(w)), isOdd(w), api.OK
}

// Sync returns the sync word of the frame with a number.
func Sync(number int) (int, api.Errno) {
	if number < 0 || number >= api.Number {
		return 0, api.ErrRange
	}
	return int(syncFor(number)), api.OK
}

func syncFor(number int) uint16 {
	return syncs[number%len(syncs)]
}

func dataOf(w uint16) uint16 {
	return w % dataLimit
}

// withParity returns the word with the data of w.
func withParity(w uint16) uint16 {
	data := dataOf(w)
	if isOdd(data) {
		return data
	}
	return data | dataLimit
}

func isOdd(w uint16) bool {
	return bits.OnesCount16(w)%2 == 1
}

// isTold says that a word can be believed by itself.
func isTold(w uint16) bool {
	return w < wordLimit && isOdd(w)
}
