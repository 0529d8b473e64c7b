package layout_test

import (
	"slices"
	"testing"

	"orangebox/api"
	"orangebox/layout"
)

// roomy gives each list of a map unused capacity, with something in it.
func roomy(m api.Map) api.Map {
	m = copyMap(m)
	for i := range m.Params {
		p := &m.Params[i]
		p.Parts = append(p.Parts, api.Part{Frame: -1})[:len(p.Parts)]
		p.Names = append(p.Names, "unused")[:len(p.Names)]
	}
	m.Params = append(m.Params, api.Param{Name: "unused"})[:len(m.Params)]
	return m
}

// spare is the map with its unused capacity.
func spare(m api.Map) api.Map {
	m.Params = slices.Clone(m.Params[:cap(m.Params)])
	for i := range m.Params {
		p := &m.Params[i]
		p.Parts = slices.Clone(p.Parts[:cap(p.Parts)])
		p.Names = slices.Clone(p.Names[:cap(p.Names)])
	}
	return m
}

// spoil changes all that a parameter has in lists.
func spoil(p api.Param) {
	for i := range p.Parts {
		p.Parts[i] = api.Part{Frame: -9}
	}
	for i := range p.Names {
		p.Names[i] = "spoilt"
	}
	_ = append(p.Parts, api.Part{Frame: -9})
	_ = append(p.Names, "spoilt")
}

// B1 to B5: arguments stay as they are, with their unused capacity, whatever is done with the results.
func TestArgumentsStay(t *testing.T) {
	m := roomy(mapOf(speed(), code(9, "x", "y"), flag("a", 20, 0)))
	l := append(make([]int, 18), 99)[:18]
	before := spare(m)
	cells, _ := layout.Cells(m)
	for _, c := range cells {
		c.Places[0] = api.Place{}
	}
	c, _, _ := layout.Owner(m, 0, 4, 0)
	c.Places[0] = api.Place{}
	data := packed(t, m, l...)
	kept := packed(t, m, l...)
	u, _ := layout.Unpack(m, data)
	u[0].Value = 9
	wantSame(t, "data of Unpack", data, kept)
	_, _ = layout.Build(m, 0, l)
	wantSame(t, "values", l[:19], append(make([]int, 18), 99))
	used, _ := layout.Used(m, 0)
	used[0] = 9
	_, _ = layout.Room(m)
	_, _ = layout.Check(m)
	_, _ = layout.Diff(m, m)
	printed(t, m)
	left, _ := layout.Without(m, nil)
	for i := range left.Params {
		spoil(left.Params[i])
		left.Params[i] = api.Param{}
	}
	wantSame(t, "map", spare(m), before)
}

// B2: neither the map nor the parameter is changed, and the result shares nothing with them.
func TestFitKeepsArguments(t *testing.T) {
	m := roomy(mapOf(speed(), flag("a", 20, 0)))
	p := roomy(mapOf(code(4, "x", "y"))).Params[0]
	before, param := spare(m), spare(mapOf(p))
	got, e := layout.Fit(m, p)
	wantErrno(t, "Fit", e, api.OK)
	kept := copyParam(got)
	wantSame(t, "map", spare(m), before)
	wantSame(t, "parameter", spare(mapOf(p)), param)
	spoil(got)
	wantSame(t, "parameter", spare(mapOf(p)), param)
	got, _ = layout.Fit(m, p)
	spoil(p)
	wantSame(t, "result", got, kept)
}

// B2, B3: no two lists of a result share memory.
func TestListsOfResultsAreApart(t *testing.T) {
	m := mapOf(speed())
	cells, _ := layout.Cells(m)
	kept, _ := layout.Cells(m)
	_ = append(cells[0].Places, api.Place{Word: 9})
	cells[0].Places[1].Word = 9
	wantSame(t, "cells", cells[1:], kept[1:])
	l := make([]int, 16)
	data, same := packed(t, m, l...), packed(t, m, l...)
	_ = append(data[0], 9, 9)
	data[0][5] = 9
	for f := 1; f < 16; f++ {
		wantSame(t, "data", data[f], same[f])
	}
	left, _ := layout.Without(mapOf(code(9, "x", "y"), speed(), flag("a", 20, 0)), []string{"a"})
	spoil(left.Params[0])
	wantSame(t, "a parameter that is left", left.Params[1], speed())
}
