package event

import (
	"iter"

	"orangebox/api"
	"orangebox/series"
)

// row says what a kind of conditions uses, and the word for it in texts.
type row struct {
	word                       string
	name, other, op, n, frames bool
	kids                       int
	more                       bool // it can have more kids, too
}

// CheckCond returns what is wrong with a condition by itself.
func CheckCond(c api.Cond) api.Errno {
	if !isWithinLimits(c) {
		return api.ErrSize
	}
	for x := range All(c) {
		if e := checkAlone(x); e != api.OK {
			return e
		}
	}
	return api.OK
}

// rowOf returns the row of a kind, if there is one.
func rowOf(kind int) (row, bool) {
	table := [...]row{
		api.CondTrue:   {word: "true"},
		api.CondFalse:  {word: "false"},
		api.CondNumber: {name: true, op: true, n: true},
		api.CondTracks: {name: true, op: true, other: true},
		api.CondSteady: {word: "steady", name: true, n: true, frames: true},
		api.CondPhase:  {word: "phase", name: true},
		api.CondRule:   {word: "rule", name: true},
		api.CondNot:    {word: "not", kids: 1},
		api.CondAnd:    {word: "and", kids: 2, more: true},
		api.CondOr:     {word: "or", kids: 2, more: true},
		api.CondFor:    {word: "for", frames: true, kids: 1},
		api.CondWithin: {word: "within", frames: true, kids: 1},
		api.CondCount:  {word: "count", n: true, frames: true, kids: 1},
		api.CondSince:  {word: "since", kids: 2},
		api.CondRises:  {word: "rises", kids: 1},
	}
	if kind < api.CondTrue || kind >= len(table) {
		return row{}, false
	}
	return table[kind], true
}

// isWithinLimits counts no further than the limits: kids can be the kids of what is in them, without an end.
func isWithinLimits(c api.Cond) bool {
	nodes := 0
	return count(c, 1, &nodes)
}

func count(c api.Cond, level int, nodes *int) bool {
	*nodes++
	if level > MaxLevels || *nodes > MaxNodes {
		return false
	}
	for _, kid := range c.Kids {
		if !count(kid, level+1, nodes) {
			return false
		}
	}
	return true
}

// All yields a condition and those in it, each one before those in it. It wants a condition within the limits.
func All(c api.Cond) iter.Seq[api.Cond] {
	return func(yield func(api.Cond) bool) { visit(c, yield) }
}

func visit(c api.Cond, yield func(api.Cond) bool) bool {
	if !yield(c) {
		return false
	}
	for _, kid := range c.Kids {
		if !visit(kid, yield) {
			return false
		}
	}
	return true
}

// checkAlone leaves out what is in the condition.
func checkAlone(c api.Cond) api.Errno {
	r, ok := rowOf(c.Kind)
	if !ok {
		return api.ErrKind
	}
	if !hasForm(c, r) {
		return api.ErrForm
	}
	if r.name && !IsName(c.Name) || r.other && !IsName(c.Other) {
		return api.ErrName
	}
	if r.op && (c.Op < api.Less || c.Op > api.Greater) {
		return api.ErrKind
	}
	if r.frames && (c.Frames < 1 || c.Frames > MaxFrames) {
		return api.ErrRange
	}
	if low, high := limits(c); r.n && (c.N < low || c.N > high) {
		return api.ErrRange
	}
	return api.OK
}

// hasForm reports whether a condition has no field that its row does not name, and as many kids as it says.
func hasForm(c api.Cond, r row) bool {
	return (r.name || c.Name == "") && (r.other || c.Other == "") &&
		(r.op || c.Op == 0) && (r.n || c.N == 0) && (r.frames || c.Frames == 0) &&
		(len(c.Kids) == r.kids || r.more && len(c.Kids) > r.kids)
}

// limits returns between which numbers N of a condition is.
func limits(c api.Cond) (low, high int) {
	switch c.Kind {
	case api.CondSteady:
		return 0, series.MaxN
	case api.CondCount:
		return 1, c.Frames
	}
	return -series.MaxN, series.MaxN
}
