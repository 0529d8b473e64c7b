package frame

import (
	"math/bits"

	"orangebox/api"
)

const (
	digestStart  = 14695981039346656037
	digestFactor = 1099511628211
)

// Flaws returns what is wrong with a frame.
func Flaws(f api.Frame) []api.Flaw {
	if wide := wordsThat(f, 0, api.FlawWide, isTooWide); len(wide) > 0 {
		return wide // the words mean nothing, so that nothing else can be asked
	}
	var flaws []api.Flaw
	if !fitsSync(f) {
		flaws = append(flaws, api.Flaw{Word: 0, Kind: api.FlawSync})
	}
	flaws = append(flaws, wordsThat(f, lowNumber, api.FlawParity, isEven)...)
	if !fitsSum(f) {
		flaws = append(flaws, api.Flaw{Word: sumWord, Kind: api.FlawSum})
	}
	if !fitsCheck(f) {
		flaws = append(flaws, api.Flaw{Word: highCheck, Kind: api.FlawCheck})
	}
	return flaws
}

// Sound reports whether a frame has no flaws.
func Sound(f api.Frame) bool {
	return !isWide(f) && isSound(f)
}

// Mend returns the sound frame that a frame with one spoilt word was, and the place of the word.
func Mend(f api.Frame) (api.Frame, []int, bool) {
	if isWide(f) {
		return api.Frame{}, nil, false
	}
	if isSound(f) {
		return f, nil, true
	}
	var mended api.Frame
	var places []int
	for i := range api.Words {
		g := f
		g[i] = fitting(f, i)
		if isSound(g) {
			mended = g
			places = append(places, i)
		}
	}
	if len(places) != 1 {
		return api.Frame{}, nil, false
	}
	return mended, places, true
}

// Distance returns in how many bits two frames differ.
func Distance(f, g api.Frame) int {
	n := 0
	for i := range api.Words {
		n += bits.OnesCount16(f[i] ^ g[i])
	}
	return n
}

// Hash returns a digest of a frame.
func Hash(f api.Frame) api.Digest {
	n := uint64(digestStart)
	for i := range api.Words {
		n = (n ^ uint64(f[i]>>8)) * digestFactor
		n = (n ^ uint64(f[i]&255)) * digestFactor
	}
	var d api.Digest
	for i := range d {
		d[i] = byte(n >> (8 * (len(d) - 1 - i)))
	}
	return d
}

// fitting returns the only word that can make f sound at a place, if all its other words are right.
func fitting(f api.Frame, place int) uint16 {
	switch place {
	case 0:
		return syncFor(numberOf(f))
	case sumWord:
		return withParity(sumOf(f))
	case highCheck:
		high, _ := checkWords(f)
		return high
	case lowCheck:
		_, low := checkWords(f)
		return low
	}
	return withParity(sumOf(f) ^ f[sumWord] ^ f[place])
}

// isSound asks first what is quickly answered: Mend tries many frames. It wants words of at most 12 bits.
func isSound(f api.Frame) bool {
	if !fitsSync(f) {
		return false
	}
	for i := lowNumber; i < api.Words; i++ {
		if isEven(f[i]) {
			return false
		}
	}
	return fitsSum(f) && fitsCheck(f)
}

func fitsSync(f api.Frame) bool {
	return f[0] == syncFor(numberOf(f))
}

func fitsSum(f api.Frame) bool {
	return dataOf(f[sumWord]) == sumOf(f)
}

// fitsCheck looks at data only: a wrong parity of the check words is a flaw of its own.
func fitsCheck(f api.Frame) bool {
	high, low := checkWords(f)
	return dataOf(f[highCheck]) == dataOf(high) && dataOf(f[lowCheck]) == dataOf(low)
}

func isWide(f api.Frame) bool {
	for i := range api.Words {
		if isTooWide(f[i]) {
			return true
		}
	}
	return false
}

func isTooWide(w uint16) bool {
	return w >= wordLimit
}

func isEven(w uint16) bool {
	return !isOdd(w)
}

// wordsThat returns a flaw for each word, from a first one on, of which something is true.
func wordsThat(f api.Frame, first, kind int, is func(uint16) bool) []api.Flaw {
	var flaws []api.Flaw
	for i := first; i < api.Words; i++ {
		if is(f[i]) {
			flaws = append(flaws, api.Flaw{Word: i, Kind: kind})
		}
	}
	return flaws
}
