package salvage

import (
	"iter"

	"orangebox/api"
	"orangebox/frame"
)

// Rests returns what is left in a piece, by number.
func Rests(p api.Piece) ([]api.Rest, api.Errno) {
	if e := CheckPiece(p); e != api.OK {
		return nil, e
	}
	return rests(p), api.OK
}

// rests wants a piece without errors.
func rests(p api.Piece) []api.Rest {
	s := stripOf(p)
	certain := s.certain()
	g := group{}
	for _, c := range certain {
		g.add(soundRest(c.Frame))
	}
	for at, c := range beside(certain, s.length()) {
		f, _ := s.window(at).frame()
		number, ok := numberOf(f, at, c, certain)
		if !ok {
			continue
		}
		if r, ok := doubtfulRest(f, number); ok {
			g.add(r)
		}
	}
	return g.merged()
}

// beside yields the places beside certain ones in a piece with a length, each with the certain place that is nearest to it.
func beside(certain []api.Found, length int) iter.Seq2[int, api.Found] {
	return func(yield func(int, api.Found) bool) {
		for i, c := range certain {
			least, most := -outside, length-1
			if i > 0 {
				least = (certain[i-1].At+c.At)/2 + 1 // what is in the middle is beside the earlier one
			}
			if i < len(certain)-1 {
				most = (c.At + certain[i+1].At) / 2
			}
			for at := c.At - pitch; at >= least; at -= pitch {
				if !yield(at, c) {
					return
				}
			}
			for at := c.At + pitch; at <= most; at += pitch {
				if !yield(at, c) {
					return
				}
			}
		}
	}
}

// numberOf returns the number of the frame at a place beside the certain one c, if it has one.
func numberOf(f api.Frame, at int, c api.Found, certain []api.Found) (int, bool) {
	if number, ok := ownNumber(f); ok {
		return number, true
	}
	other, ok := nearestOther(at, c, certain)
	if !ok {
		return 0, false
	}
	return counted(at, c, other)
}

// ownNumber returns the number that the frame tells itself. Words that are not in the piece are 0, and tell none.
func ownNumber(f api.Frame) (int, bool) {
	number, ok := frame.Number(f)
	return number, ok && f[0] == headOf(number)[0]
}

// nearestOther returns the certain place nearest to a place that lies in one row with c.
func nearestOther(at int, c api.Found, certain []api.Found) (api.Found, bool) {
	nearest, some := api.Found{}, false
	for _, o := range certain {
		if o.At == c.At || (o.At-c.At)%pitch != 0 {
			continue
		}
		if !some || apart(o.At, at) < apart(nearest.At, at) {
			nearest, some = o, true
		}
	}
	return nearest, some
}

// counted returns the number at a place, if numbers rise evenly from frame to frame between two certain places.
func counted(at int, c, other api.Found) (int, bool) {
	first, _ := frame.Number(c.Frame)
	second, _ := frame.Number(other.Frame)
	frames := (other.At - c.At) / pitch
	if (second-first)%frames != 0 || (second-first)/frames <= 0 {
		return 0, false
	}
	number := first + (at-c.At)/pitch*((second-first)/frames)
	return number, number >= 0 && number < api.Number
}

func apart(a, b int) int {
	return max(a-b, b-a)
}

// soundRest wants a sound frame.
func soundRest(f api.Frame) api.Rest {
	number, _ := frame.Number(f)
	return api.Rest{Number: number, Frame: f, States: allStates(api.WordGood), Sound: true, Copies: 1}
}

// doubtfulRest returns the words that are right by themselves, if there are any. Words that are not in the piece are 0, and never right.
func doubtfulRest(f api.Frame, number int) (api.Rest, bool) {
	r := api.Rest{Number: number}
	head := headOf(number)
	some := false
	for i, w := range f {
		_, right, _ := frame.Data(int(w))
		if i < len(head) {
			right = w == head[i]
		}
		if right {
			r.Frame[i], r.States[i] = w, api.WordDoubtful
			some = true
		}
	}
	return r, some
}

// headOf returns the words 0, 1 and 2 of all frames with a number.
func headOf(number int) [highNumber + 1]uint16 {
	sync, _ := frame.Sync(number)
	low, _ := frame.Word(number % dataLimit)
	high, _ := frame.Word(number / dataLimit)
	return [...]uint16{0: uint16(sync), lowNumber: uint16(low), highNumber: uint16(high)}
}
