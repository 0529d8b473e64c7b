package layout

import "orangebox/api"

// kind is how raw numbers of some bits are values; a code has some names, too.
type kind struct {
	word   string // for it in texts
	suits  func(bits int) bool
	limits func(bits, names int) (low, high int)
	encode func(bits, v int) int   // of a value within the limits
	decode func(bits, raw int) int // of a raw number that can be none
}

// Range returns the least and the greatest value.
func Range(p api.Param) (low, high int, e api.Errno) {
	if e := CheckParam(p); e != api.OK {
		return 0, 0, e
	}
	low, high = limits(p)
	return low, high, api.OK
}

// Encode returns the raw number for a value.
func Encode(p api.Param, v int) (int, api.Errno) {
	if e := CheckParam(p); e != api.OK {
		return 0, e
	}
	return encode(p, v)
}

// Decode returns the value for a raw number, and whether there is one.
func Decode(p api.Param, raw int) (int, bool, api.Errno) {
	if e := CheckParam(p); e != api.OK {
		return 0, false, e
	}
	if raw < 0 || raw >= 1<<size(p.Parts) {
		return 0, false, api.ErrRange
	}
	v, good := decode(p, raw)
	return v, good, api.OK
}

// limits, encode and decode want a parameter without errors.
func limits(p api.Param) (low, high int) {
	k, _ := kindOf(p.Kind)
	return k.limits(size(p.Parts), len(p.Names))
}

func encode(p api.Param, v int) (int, api.Errno) {
	low, high := limits(p)
	if v < low || v > high {
		return 0, api.ErrRange
	}
	k, _ := kindOf(p.Kind)
	return k.encode(size(p.Parts), v), api.OK
}

// decode holds its value against raw: a raw number that no value is written as is no value.
func decode(p api.Param, raw int) (int, bool) {
	k, _ := kindOf(p.Kind)
	v := k.decode(size(p.Parts), raw)
	if back, e := encode(p, v); e != api.OK || back != raw {
		return 0, false
	}
	return v, true
}

// kindOf returns the kind with a number, if there is one.
func kindOf(number int) (kind, bool) {
	table := [...]kind{
		api.Unsigned: {"unsigned", isAny, unsignedLimits, sameRaw, sameRaw},
		api.Signed:   {"signed", isTwoOrMore, signedLimits, encodeSigned, decodeSigned},
		api.SignSize: {"sign-size", isTwoOrMore, signSizeLimits, encodeSignSize, decodeSignSize},
		api.Decimal:  {"decimal", isOfFours, decimalLimits, encodeDecimal, decodeDecimal},
		api.Flag:     {"flag", isOne, unsignedLimits, sameRaw, sameRaw},
		api.Code:     {"code", isAny, codeLimits, sameRaw, sameRaw},
	}
	if number < api.Unsigned || number >= len(table) {
		return kind{}, false
	}
	return table[number], true
}

// kindFor returns the number of the kind with a word, if there is one.
func kindFor(word string) (int, bool) {
	for number := api.Unsigned; ; number++ {
		k, ok := kindOf(number)
		if !ok {
			return 0, false
		}
		if k.word == word {
			return number, true
		}
	}
}

func isAny(bits int) bool       { return true }
func isOne(bits int) bool       { return bits == 1 }
func isTwoOrMore(bits int) bool { return bits >= 2 }
func isOfFours(bits int) bool   { return bits%4 == 0 }

func unsignedLimits(bits, _ int) (low, high int) {
	return 0, 1<<bits - 1
}

func signedLimits(bits, _ int) (low, high int) {
	return -1 << (bits - 1), 1<<(bits-1) - 1
}

func signSizeLimits(bits, _ int) (low, high int) {
	return 1 - 1<<(bits-1), 1<<(bits-1) - 1
}

func decimalLimits(bits, _ int) (low, high int) {
	high = 1
	for range bits / 4 {
		high *= 10
	}
	return 0, high - 1
}

func codeLimits(_, names int) (low, high int) {
	return 0, names - 1
}

func sameRaw(_, n int) int {
	return n
}

func encodeSigned(bits, v int) int {
	if v < 0 {
		return 1<<bits + v
	}
	return v
}

func decodeSigned(bits, raw int) int {
	if raw >= 1<<(bits-1) {
		return raw - 1<<bits
	}
	return raw
}

func encodeSignSize(bits, v int) int {
	if v < 0 {
		return 1<<(bits-1) - v
	}
	return v
}

func decodeSignSize(bits, raw int) int {
	if raw >= 1<<(bits-1) {
		return 1<<(bits-1) - raw
	}
	return raw
}

func encodeDecimal(bits, v int) int {
	raw := 0
	for shift := 0; shift < bits; shift += 4 {
		raw |= v % 10 << shift
		v /= 10
	}
	return raw
}

// decodeDecimal takes groups above 9 as they are: the number that it makes of them is written otherwise.
func decodeDecimal(bits, raw int) int {
	v := 0
	for shift := bits - 4; shift >= 0; shift -= 4 {
		v = v*10 + raw>>shift&15
	}
	return v
}
