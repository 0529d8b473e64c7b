package salvage

import (
	"slices"

	"orangebox/api"
	"orangebox/frame"
)

// CheckRest returns what is wrong with a rest.
func CheckRest(r api.Rest) api.Errno {
	if r.Number < 0 || r.Number >= api.Number {
		return api.ErrRange
	}
	for i, w := range r.Frame {
		if r.States[i] < api.WordLost || r.States[i] > api.WordGood {
			return api.ErrRange
		}
		if r.States[i] == api.WordLost && w != 0 || w >= wordLimit {
			return api.ErrForm
		}
	}
	if r.Sound && (!isFrame(r.Frame, r.Number) || slices.Min(r.States[:]) < api.WordMended) {
		return api.ErrForm
	}
	if !r.Sound && slices.Max(r.States[:]) > api.WordDoubtful {
		return api.ErrForm
	}
	if r.Copies < 0 || r.Copies == 0 && isGood(r) {
		return api.ErrRange
	}
	if r.Conflict && r.Sound {
		return api.ErrForm
	}
	return api.OK
}

// Merge makes one rest of several with one number.
func Merge(l []api.Rest) (api.Rest, api.Errno) {
	if e := checkRests(l); e != api.OK {
		return api.Rest{}, e
	}
	if len(l) == 0 {
		return api.Rest{}, api.ErrEmpty
	}
	for i := range l {
		if l[i].Number != l[0].Number {
			return api.Rest{}, api.ErrForm
		}
	}
	return merge(l), api.OK
}

// Mended returns a rest with its lost word, if it is the only one and can be found.
func Mended(r api.Rest) (api.Rest, api.Errno) {
	if e := CheckRest(r); e != api.OK {
		return api.Rest{}, e
	}
	return mended(r), api.OK
}

func checkRests(l []api.Rest) api.Errno {
	for i := range l {
		if e := CheckRest(l[i]); e != api.OK {
			return e
		}
	}
	return api.OK
}

// merge wants at least one rest, all with one number, and without errors.
func merge(l []api.Rest) api.Rest {
	var sound []api.Rest
	copies, conflict := 0, false
	for _, r := range l {
		copies += r.Copies
		conflict = conflict || r.Conflict
		if r.Sound {
			sound = append(sound, r)
			conflict = conflict || r.Frame != sound[0].Frame
		}
	}
	if conflict {
		return api.Rest{Number: l[0].Number, Copies: copies, Conflict: true}
	}
	if len(sound) == 0 {
		return mergeDoubtful(l, copies)
	}
	return mergeSound(sound, copies)
}

// mergeSound wants sound rests with equal frames.
func mergeSound(l []api.Rest, copies int) api.Rest {
	m := l[0]
	m.Copies = copies
	for _, r := range l {
		for i, s := range r.States {
			m.States[i] = max(m.States[i], s)
		}
	}
	if copies == 0 && isGood(m) {
		m.Copies = 1
	}
	return m
}

// mergeDoubtful wants rests of which none is sound.
func mergeDoubtful(l []api.Rest, copies int) api.Rest {
	m := api.Rest{Number: l[0].Number, Copies: copies}
	for i := range m.Frame {
		if w, ok := agreed(l, i); ok {
			m.Frame[i], m.States[i] = w, api.WordDoubtful
		}
	}
	if countLost(m) == 0 && isFrame(m.Frame, m.Number) {
		return soundRest(m.Frame)
	}
	return m
}

// agreed returns a word, if all that have it have the same one.
func agreed(l []api.Rest, i int) (uint16, bool) {
	word, some := uint16(0), false
	for k := range l {
		if l[k].States[i] == api.WordLost {
			continue
		}
		if some && l[k].Frame[i] != word {
			return 0, false
		}
		word, some = l[k].Frame[i], true
	}
	return word, some
}

// mended wants a rest without errors. A lost word is 0, which no sound frame has, so that frame.Mend puts a word there or nowhere.
func mended(r api.Rest) api.Rest {
	if r.Sound || r.Conflict || countLost(r) != 1 {
		return r
	}
	f, places, ok := frame.Mend(r.Frame)
	if !ok || !isFrame(f, r.Number) {
		return r
	}
	m := soundRest(f)
	m.States[places[0]] = api.WordMended
	m.Copies = 0 // it was not found anywhere
	return m
}

// isFrame reports whether a frame is sound and has a number.
func isFrame(f api.Frame, number int) bool {
	n, _ := frame.Number(f)
	return n == number && frame.Sound(f)
}

// isGood reports whether a rest is sound without a mended word.
func isGood(r api.Rest) bool {
	return r.Sound && r.States == allStates(api.WordGood)
}

func countLost(r api.Rest) int {
	n := 0
	for _, s := range r.States {
		if s == api.WordLost {
			n++
		}
	}
	return n
}

func allStates(state int) [api.Words]int {
	var states [api.Words]int
	for i := range states {
		states[i] = state
	}
	return states
}
