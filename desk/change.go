package desk

import (
	"slices"
	"strconv"
	"strings"

	"orangebox/api"
	"orangebox/event"
	"orangebox/layout"
	"orangebox/ring"
	"orangebox/salvage"
)

// Commands that change what is on the desk. Each of them changes nothing before all that can be wrong was asked for.

func (d *Desk) takeMap(o order) (string, api.Errno) {
	m, _, e := layout.Read(o.block)
	if e != api.OK {
		return "", e
	}
	d.theCase, d.book = api.Case{Map: m}, nil
	return done(), api.OK
}

func (d *Desk) takeSources(o order) (string, api.Errno) {
	l, _, e := ReadSources(o.block)
	if e != api.OK {
		return "", e
	}
	c := api.Case{Map: d.theCase.Map, Sources: l}
	if e := CheckCase(c); e != api.OK {
		return "", e
	}
	d.theCase, d.book = c, nil
	return done(), api.OK
}

func (d *Desk) takeRules(o order) (string, api.Errno) {
	r, _, e := event.Read(o.block)
	if e != api.OK {
		return "", e
	}
	c := d.theCase
	c.Rules = r
	if e := CheckCase(c); e != api.OK {
		return "", e
	}
	d.theCase = c
	return done(), api.OK
}

func (d *Desk) addMemory(o order) (string, api.Errno) {
	m, e := ring.NewMemory(o.numbers[0], o.numbers[1], o.numbers[2])
	if e != api.OK {
		return "", e
	}
	if len(d.memories) >= ring.MaxMemories {
		return "", api.ErrSize
	}
	d.memories = append(d.memories, m)
	return done(), api.OK
}

func (d *Desk) takeCopies(o order) (string, api.Errno) {
	d.copies = o.numbers[0]
	return done(), api.OK
}

func (d *Desk) takePower(o order) (string, api.Errno) {
	if o.numbers[0] > ring.MaxPower {
		return "", api.ErrRange
	}
	d.power = o.numbers[0]
	return done(), api.OK
}

func (d *Desk) record(o order) (string, api.Errno) {
	values, ok := valuesIn(o.block)
	if !ok {
		return "", api.ErrSyntax
	}
	frames, e := Record(d.theCase, o.numbers[0], values)
	if e != api.OK {
		return "", e
	}
	memories, written, left, e := Store(frames, d.memories, d.copies, d.power)
	if e != api.OK {
		return "", e
	}
	d.memories, d.power = memories, left
	return done(strconv.Itoa(written)), api.OK
}

func (d *Desk) takeCuts(o order) (string, api.Errno) {
	d.cuts = begin(o.numbers, salvage.MaxPieces-1)
	return done(), api.OK
}

func (d *Desk) addFlip(o order) (string, api.Errno) {
	f := api.Flip{Piece: o.numbers[0], Half: o.numbers[1], Bits: o.numbers[2]}
	d.flips = begin(append(d.flips, f), MaxFlips)
	return done(), api.OK
}

func (d *Desk) addLost(o order) (string, api.Errno) {
	d.lost = begin(append(d.lost, o.numbers[0]), salvage.MaxPieces)
	return done(), api.OK
}

func (d *Desk) salvage(order) (string, api.Errno) {
	pieces, e := Crash(d.memories, d.cuts, d.lost, d.flips)
	if e != api.OK {
		return "", e
	}
	b, e := Read(d.theCase, pieces)
	if e != api.OK {
		return "", e
	}
	d.book = &b
	return done(strconv.Itoa(len(b.Rests))), api.OK
}

// valuesIn reads lines of numbers.
func valuesIn(block string) ([][]int, bool) {
	var l [][]int
	for text := range strings.Lines(block) {
		text = strings.TrimSuffix(text, "\n")
		if text == "" {
			l = append(l, nil)
			continue
		}
		numbers, ok := numbersIn(strings.Split(text, " "))
		if !ok {
			return nil, false
		}
		l = append(l, numbers)
	}
	return l, true
}

// begin returns the beginning of a list, with the first element that is too much. Crash has the same error for it as for the whole list, so that no more needs to be kept.
func begin[T any](l []T, most int) []T {
	return slices.Clone(l[:min(len(l), most+1)])
}
