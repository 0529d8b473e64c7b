package layout

import (
	"slices"

	"orangebox/api"
)

// CheckParam returns what is wrong with a parameter by itself.
func CheckParam(p api.Param) api.Errno {
	if !isName(p.Name) {
		return api.ErrName
	}
	k, ok := kindOf(p.Kind)
	if !ok {
		return api.ErrKind
	}
	if e := checkParts(p.Parts); e != api.OK {
		return e
	}
	if !areStepsRight(p) || isAnyPartMovedOut(p) {
		return api.ErrRange
	}
	if e := checkForm(p, k); e != api.OK {
		return e
	}
	if doPartsMeet(p) {
		return api.ErrTwice
	}
	if frames(p) == 0 {
		return api.ErrEmpty
	}
	return api.OK
}

// Bits returns the number of bits of a sample.
func Bits(p api.Param) (int, api.Errno) {
	if e := CheckParam(p); e != api.OK {
		return 0, e
	}
	return size(p.Parts), api.OK
}

func size(parts []api.Part) int {
	n := 0
	for _, part := range parts {
		n += part.Bits
	}
	return n
}

func checkParts(parts []api.Part) api.Errno {
	if len(parts) == 0 {
		return api.ErrEmpty
	}
	if len(parts) > MaxParts {
		return api.ErrSize
	}
	for _, part := range parts {
		if !isPart(part) {
			return api.ErrRange
		}
	}
	if size(parts) > MaxBits {
		return api.ErrSize
	}
	return api.OK
}

func isPart(part api.Part) bool {
	return part.Frame >= 0 && part.Frame < api.Super &&
		part.Word >= api.Fixed && part.Word <= api.Last &&
		part.Low >= 0 && part.Low < dataBits &&
		part.Bits >= 1 && part.Bits <= dataBits-part.Low
}

func areStepsRight(p api.Param) bool {
	switch p.Every {
	case 1, 2, 4, 8, 16:
	default:
		return false
	}
	return p.First >= 0 && p.First < p.Every &&
		p.Times >= 1 && p.Times <= mapWords &&
		p.Step >= 0 && (p.Step == 0) == (p.Times == 1)
}

func isAnyPartMovedOut(p api.Param) bool {
	return slices.ContainsFunc(p.Parts, func(part api.Part) bool {
		return isMovedOut(p, part.Word)
	})
}

// isMovedOut reports whether a word goes beyond the last one in the last sample of a frame. It divides, for a product with Step could be beyond an int.
func isMovedOut(p api.Param, word int) bool {
	return p.Times > 1 && p.Step > (api.Last-word)/(p.Times-1)
}

func checkForm(p api.Param, k kind) api.Errno {
	if !k.suits(size(p.Parts)) {
		return api.ErrForm
	}
	if p.Kind == api.Code {
		return checkNames(p)
	}
	if len(p.Names) > 0 {
		return api.ErrForm
	}
	return api.OK
}

func checkNames(p api.Param) api.Errno {
	if len(p.Names) == 0 {
		return api.ErrEmpty
	}
	if len(p.Names) > MaxNames || len(p.Names) > 1<<size(p.Parts) {
		return api.ErrSize
	}
	for i, name := range p.Names {
		if !isName(name) {
			return api.ErrName
		}
		if slices.Contains(p.Names[:i], name) {
			return api.ErrTwice
		}
	}
	return api.OK
}

func isName(s string) bool {
	if len(s) == 0 || len(s) > MaxName || !isLetter(s[0]) {
		return false
	}
	for i := range len(s) {
		if !isLetter(s[i]) && !isDigit(s[i]) && s[i] != '-' {
			return false
		}
	}
	return true
}

func isLetter(c byte) bool {
	return c >= 'a' && c <= 'z'
}

func isDigit(c byte) bool {
	return c >= '0' && c <= '9'
}

// doPartsMeet reports whether two parts have a bit in common in some samples. No part meets itself: its samples are in different frames or words.
func doPartsMeet(p api.Param) bool {
	for i, a := range p.Parts {
		for _, b := range p.Parts[:i] {
			if doMeet(p, a, b) {
				return true
			}
		}
	}
	return false
}

// doMeet finds by numbers alone what the bits of all samples would show: this is asked with each sample that is decoded.
func doMeet(p api.Param, a, b api.Part) bool {
	return a.Low < b.Low+b.Bits && b.Low < a.Low+a.Bits &&
		areApart(a.Frame-b.Frame, p.Every, frames(p)) &&
		areApart(a.Word-b.Word, p.Step, p.Times)
}

// areApart reports whether two of some places, each one a step behind the one before, have this distance.
func areApart(distance, step, places int) bool {
	if step == 0 {
		return distance == 0
	}
	return distance%step == 0 && max(distance, -distance)/step < places
}

// frames returns in how many frames of a superframe samples begin.
func frames(p api.Param) int {
	return max(0, (api.Super-1-p.First-reach(p)+p.Every)/p.Every)
}

// reach returns how many frames behind its first one a sample ends.
func reach(p api.Param) int {
	n := 0
	for _, part := range p.Parts {
		n = max(n, part.Frame)
	}
	return n
}
