package layout_test

import (
	"slices"
	"strconv"
	"testing"

	"orangebox/api"
	"orangebox/layout"
)

func param(name string, parts ...api.Part) api.Param {
	return api.Param{Name: name, Kind: api.Unsigned, Parts: parts, Every: 1, Times: 1}
}

func part(bits int) api.Part {
	return api.Part{Word: 30, Bits: bits}
}

// B2: each part goes to the first place that is left, the ones before it counted.
func TestFit(t *testing.T) {
	m := mapOf(speed())
	p := param("p", part(9), part(1), part(3), part(4))
	p.Parts[1].Word, p.Parts[2].Word, p.Parts[3].Word = 31, 32, 33
	got, e := layout.Fit(m, p)
	wantErrno(t, "Fit", e, api.OK)
	p.Parts = []api.Part{{Word: 6, Bits: 9}, {Word: 5, Bits: 1}, {Word: 5, Low: 1, Bits: 3}, {Word: 5, Low: 4, Bits: 4}}
	wantSame(t, "Fit", got, p)
}

// B2: all samples of a part need their place.
func TestFitOfManySamples(t *testing.T) {
	taken := flag("taken", 6, 1)
	taken.Parts[0].Frame = 6
	p := param("p", api.Part{Word: 4, Bits: 2}, api.Part{Frame: 2, Word: 20, Low: 3, Bits: 4})
	p.Every, p.Times, p.Step = 4, 3, 1
	got, e := layout.Fit(mapOf(taken), p)
	wantErrno(t, "Fit", e, api.OK)
	p.Parts = []api.Part{{Word: 4, Bits: 2}, {Frame: 2, Word: 4, Low: 2, Bits: 4}}
	wantSame(t, "Fit", got, p)
}

// B2: a part of another frame of the same parameter is in the way of a sample.
func TestFitWithItself(t *testing.T) {
	p := param("p", part(11), api.Part{Frame: 1, Word: 31, Bits: 11}, api.Part{Frame: 3, Word: 40, Bits: 2})
	p.Every = 2
	got, e := layout.Fit(mapOf(), p)
	wantErrno(t, "Fit", e, api.OK)
	p.Parts = []api.Part{{Word: 4, Bits: 11}, {Frame: 1, Word: 4, Bits: 11}, {Frame: 3, Word: 5, Bits: 2}}
	wantSame(t, "Fit", got, p)
}

// B2: an earlier part can take the place that a later one needs, though they could lie otherwise.
func TestFitWithoutPlace(t *testing.T) {
	m := mapOf(row("most", 4, 55, 0, 11), row("rest", 60, 1, 1, 10))
	got, e := layout.Fit(m, param("p", part(1), api.Part{Word: 31, Bits: 11}))
	wantErrno(t, "Fit", e, api.ErrNone)
	wantNothing(t, "Fit", got)
	got, e = layout.Fit(m, param("p", part(11), api.Part{Word: 31, Bits: 1}))
	wantErrno(t, "Fit", e, api.OK)
	wantSame(t, "Fit", got.Parts, []api.Part{{Word: 59, Bits: 11}, {Word: 60, Bits: 1}})
	_, e = layout.Fit(m, param("p", part(2), part(2)))
	wantErrno(t, "Fit of equal parts", e, api.ErrTwice)
	p := row("p", 4, 3, 0, 1)
	_, e = layout.Fit(m, p)
	wantErrno(t, "Fit of samples that would be beyond the last word", e, api.ErrNone)
	p.Times = 2
	got, e = layout.Fit(m, p)
	wantErrno(t, "Fit up to the last word", e, api.OK)
	wantSame(t, "Fit", got.Parts, []api.Part{{Word: 59, Bits: 1}})
}

// B2
func TestFitErrors(t *testing.T) {
	full := mapOf(row("a", 4, 57, 0, 11))
	wrong := flag("a", 3, 0)
	_, e := layout.Fit(full, wrong)
	wantErrno(t, "a wrong parameter with a name that is there", e, api.ErrRange)
	p, e := layout.Fit(full, flag("a", 4, 0))
	wantErrno(t, "a name that is there, no place", e, api.ErrTwice)
	wantNothing(t, "Fit", p)
	p, e = layout.Fit(full, flag("b", 4, 0))
	wantErrno(t, "no place", e, api.ErrNone)
	wantNothing(t, "Fit", p)
	p, e = layout.Fit(mapOf(flags(200)...), flag("b", 4, 0))
	wantErrno(t, "more than MaxParams", e, api.ErrSize)
	wantNothing(t, "Fit", p)
	_, e = layout.Fit(mapOf(flags(199)...), flag("b", 4, 0))
	wantErrno(t, "MaxParams", e, api.OK)
}

// B2: ErrSize is asked for behind ErrNone.
func TestFitOfManyCells(t *testing.T) {
	most := []api.Param{row("a", 4, 57, 0, 1), row("b", 4, 57, 1, 1), row("c", 4, 57, 2, 1), row("d", 4, 57, 3, 1), row("e", 4, 21, 4, 1)}
	p, e := layout.Fit(mapOf(most...), row("f", 4, 2, 0, 1))
	wantErrno(t, "more than MaxCells", e, api.ErrSize)
	wantNothing(t, "Fit", p)
	_, e = layout.Fit(mapOf(most...), row("f", 4, 1, 0, 1))
	wantErrno(t, "MaxCells", e, api.OK)
	_, e = layout.Fit(mapOf(most...), row("f", 4, 2, 0, 8))
	wantErrno(t, "no place", e, api.ErrNone)
	var l []api.Param
	for i := range 200 {
		p := flag("p"+strconv.Itoa(i), 4+i%57, i/57*2)
		p.Kind, p.Parts[0].Bits = api.Unsigned, 2
		l = append(l, p)
	}
	_, e = layout.Fit(mapOf(l...), row("f", 4, 57, 0, 10))
	wantErrno(t, "no place, and more than MaxParams", e, api.ErrNone)
}

// B2: the places are the first ones that the bits of all cells leave.
func TestFitAsCounted(t *testing.T) {
	r := dice(6)
	var seen [16]int
	for i := range 120 {
		m := someMap(r, 6)
		if i%2 == 0 {
			m = someMap(r, 6, row("above", 10, 51, 0, 11))
		}
		p := some(r, "new", 6)
		if layout.CheckParam(p) != api.OK {
			continue
		}
		got, e := layout.Fit(m, p)
		want, fits := slowFit(m, p)
		seen[e]++
		if !fits {
			wantErrno(t, "Fit", e, api.ErrNone)
			continue
		}
		wantErrno(t, "Fit", e, api.OK)
		wantSame(t, "Fit", got, want)
		wantCheck(t, "the map with it", mapOf(append(slices.Clip(m.Params), got)...), 0, api.OK)
	}
	if seen[api.OK] < 20 || seen[api.ErrNone] < 5 {
		t.Errorf("too few of a kind: %v", seen)
	}
}

// slowFit holds each place against the bits that are taken.
func slowFit(m api.Map, p api.Param) (api.Param, bool) {
	taken, _ := owners(m)
	fitted := copyParam(p)
	for i := range p.Parts {
		if !slowPlace(taken, &fitted, i) {
			return api.Param{}, false
		}
	}
	return fitted, true
}

func slowPlace(taken map[spot]api.Cell, p *api.Param, i int) bool {
	for word := 4; word+(p.Times-1)*p.Step <= 60; word++ {
		for low := 0; low+p.Parts[i].Bits <= 11; low++ {
			p.Parts[i].Word, p.Parts[i].Low = word, low
			var mine []spot
			for _, c := range slowCells(mapOf(*p)) {
				mine = append(mine, spotsOf(api.Cell{Places: c.Places[i : i+1]})...)
			}
			if slices.ContainsFunc(mine, func(s spot) bool { _, is := taken[s]; return is }) {
				continue
			}
			for _, s := range mine {
				taken[s] = api.Cell{}
			}
			return true
		}
	}
	return false
}
