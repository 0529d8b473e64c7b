package layout_test

import (
	"math"
	"math/rand/v2"
	"reflect"
	"slices"
	"strconv"
	"testing"

	"orangebox/api"
	"orangebox/layout"
)

// spot is a bit of a superframe.
type spot struct{ frame, word, bit int }

// dice gives the same numbers in each run.
func dice(seed uint64) *rand.Rand {
	return rand.New(rand.NewPCG(seed, 2))
}

func pick[T any](r *rand.Rand, l ...T) T {
	return l[r.IntN(len(l))]
}

// beyond has numbers that are in no range of the document.
func beyond() []int {
	return []int{math.MinInt, math.MinInt + 1, -1 << 32, -2049, -61, -1, 2048, 1 << 32, math.MaxInt - 60, math.MaxInt}
}

func wantErrno(t *testing.T, name string, got, want api.Errno) {
	t.Helper()
	if got != want {
		t.Errorf("%s: error %d, want %d", name, got, want)
	}
}

func wantSame(t *testing.T, name string, got, want any) {
	t.Helper()
	if !reflect.DeepEqual(got, want) {
		t.Errorf("%s: got %v, want %v", name, got, want)
	}
}

// wantNothing wants zero values, or empty lists.
func wantNothing(t *testing.T, name string, results ...any) {
	t.Helper()
	for _, r := range results {
		v := reflect.ValueOf(r)
		if !v.IsZero() && (v.Kind() != reflect.Slice || v.Len() > 0) {
			t.Errorf("%s: got %v with an error", name, r)
		}
	}
}

func speed() api.Param {
	return api.Param{Name: "speed", Kind: api.Unsigned, Parts: []api.Part{{Word: 4, Bits: 11}, {Word: 5, Low: 8, Bits: 3}}, Every: 1, Times: 1}
}

// flag is a parameter with one bit in a superframe.
func flag(name string, word, low int) api.Param {
	return api.Param{Name: name, Kind: api.Flag, Parts: []api.Part{{Word: word, Low: low, Bits: 1}}, Every: 16, Times: 1}
}

// wide is a parameter with n bits from word 20 on, once in a superframe.
func wide(kind, n int) api.Param {
	p := api.Param{Name: "wide", Kind: kind, Every: 16, Times: 1}
	for word := 20; n > 0; word++ {
		bits := min(n, 7)
		p.Parts = append(p.Parts, api.Part{Word: word, Low: 2, Bits: bits})
		n -= bits
	}
	return p
}

// row is a parameter with some bits of each word from one on, in all frames.
func row(name string, word, times, low, bits int) api.Param {
	p := api.Param{Name: name, Kind: api.Unsigned, Parts: []api.Part{{Word: word, Low: low, Bits: bits}}, Every: 1, Times: times, Step: 1}
	if times == 1 {
		p.Step = 0
	}
	return p
}

func mapOf(params ...api.Param) api.Map {
	return api.Map{Version: 7, Params: params}
}

func names(n int) []string {
	l := make([]string, n)
	for i := range l {
		l[i] = "n" + strconv.Itoa(i)
	}
	return l
}

func copyParam(p api.Param) api.Param {
	p.Parts = slices.Clone(p.Parts)
	p.Names = slices.Clone(p.Names)
	return p
}

func copyMap(m api.Map) api.Map {
	m.Params = slices.Clone(m.Params)
	for i, p := range m.Params {
		m.Params[i] = copyParam(p)
	}
	return m
}

// some is a parameter that can be wrong only in its bits; its parts begin in so many words.
func some(r *rand.Rand, name string, words int) api.Param {
	p := api.Param{Name: name, Kind: 1 + r.IntN(6), Every: pick(r, 1, 2, 4, 8, 16), Times: 1}
	p.First = r.IntN(p.Every)
	for range 1 + r.IntN(3) {
		low := r.IntN(11)
		p.Parts = append(p.Parts, api.Part{Frame: pick(r, 0, 0, 1, r.IntN(16)), Word: 4 + r.IntN(words), Low: low, Bits: 1 + r.IntN(11-low)})
	}
	if r.IntN(2) == 0 {
		p.Times, p.Step = 2+r.IntN(4), 1+r.IntN(6)
	}
	if p.Kind == api.Code {
		p.Names = names(1 + r.IntN(2))
	}
	if p.Kind == api.Flag {
		p.Parts = []api.Part{{Word: 4 + r.IntN(words), Low: 5, Bits: 1}}
	}
	return p
}

// someMap is a map without errors, with some parameters behind given ones.
func someMap(r *rand.Rand, words int, given ...api.Param) api.Map {
	m := api.Map{Version: r.IntN(2048), Params: given}
	for i := range 25 {
		longer := m
		longer.Params = append(slices.Clip(m.Params), some(r, "p"+strconv.Itoa(i), words))
		if _, e := layout.Check(longer); e == api.OK {
			m = longer
		}
	}
	return m
}

func someValues(t *testing.T, r *rand.Rand, m api.Map) []int {
	t.Helper()
	l := []int{}
	for _, c := range slowCells(m) {
		low, high, e := layout.Range(m.Params[c.Param])
		wantErrno(t, "Range", e, api.OK)
		l = append(l, pick(r, low, high, low+r.IntN(high-low+1)))
	}
	return l
}

// slowCells finds cells by asking each frame whether a sample begins there.
func slowCells(m api.Map) []api.Cell {
	var l []api.Cell
	for number, p := range m.Params {
		index := 0
		for f := range 16 {
			outside := slices.ContainsFunc(p.Parts, func(part api.Part) bool { return f+part.Frame > 15 })
			if f < p.First || (f-p.First)%p.Every != 0 || outside {
				continue
			}
			for j := range p.Times {
				c := api.Cell{Param: number, Index: index, Frame: f}
				for _, part := range p.Parts {
					c.Places = append(c.Places, api.Place{Frame: f + part.Frame, Word: part.Word + j*p.Step, Low: part.Low, Bits: part.Bits})
				}
				l = append(l, c)
				index++
			}
		}
	}
	return l
}

// spotsOf has the bits of a cell, those of the first part first, and in each one the highest first.
func spotsOf(c api.Cell) []spot {
	var l []spot
	for _, place := range c.Places {
		for bit := place.Low + place.Bits - 1; bit >= place.Low; bit-- {
			l = append(l, spot{place.Frame, place.Word, bit})
		}
	}
	return l
}

// owners has the cell of each bit, and whether a bit has two.
func owners(m api.Map) (map[spot]api.Cell, bool) {
	l := map[spot]api.Cell{}
	twice := false
	for _, c := range slowCells(m) {
		for _, s := range spotsOf(c) {
			_, taken := l[s]
			twice = twice || taken
			l[s] = c
		}
	}
	return l, twice
}
