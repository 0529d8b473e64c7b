package layout_test

import (
	"testing"

	"orangebox/api"
	"orangebox/layout"
)

func code(word int, names ...string) api.Param {
	p := wide(api.Code, 5)
	p.Name, p.Parts[0].Word, p.Names = "code", word, names
	return p
}

// B4: each field of a parameter that can differ.
func TestDiffOfOneParam(t *testing.T) {
	moved := api.MapChange{Name: "code", Kind: api.ParamMoved}
	other := api.MapChange{Name: "code", Kind: api.ParamKind}
	for _, c := range []struct {
		name   string
		change func(p *api.Param)
		want   []api.MapChange
	}{
		{"nothing", func(p *api.Param) {}, nil},
		{"Kind", func(p *api.Param) { p.Kind, p.Names = api.Unsigned, nil }, []api.MapChange{other}},
		{"another name of the code", func(p *api.Param) { p.Names[1] = "c" }, []api.MapChange{other}},
		{"more names", func(p *api.Param) { p.Names = append(p.Names, "c") }, []api.MapChange{other}},
		{"names in another order", func(p *api.Param) { p.Names = []string{"b", "a"} }, []api.MapChange{other}},
		{"Bits", func(p *api.Param) { p.Parts[0].Bits = 4 }, []api.MapChange{other, moved}},
		{"Parts of as many bits", func(p *api.Param) {
			p.Parts = []api.Part{{Word: 9, Low: 4, Bits: 3}, {Word: 9, Low: 2, Bits: 2}}
		}, []api.MapChange{moved}},
		{"Word", func(p *api.Param) { p.Parts[0].Word = 10 }, []api.MapChange{moved}},
		{"Low", func(p *api.Param) { p.Parts[0].Low = 0 }, []api.MapChange{moved}},
		{"Frame", func(p *api.Param) { p.Parts[0].Frame = 1 }, []api.MapChange{moved}},
		{"First", func(p *api.Param) { p.First = 3 }, []api.MapChange{moved}},
		{"Every", func(p *api.Param) { p.Every = 8 }, []api.MapChange{moved}},
		{"Times", func(p *api.Param) { p.Times = 3 }, []api.MapChange{moved}},
		{"Step", func(p *api.Param) { p.Step = 5 }, []api.MapChange{moved}},
		{"Kind, and moved", func(p *api.Param) { p.Kind, p.Names, p.First = api.Signed, nil, 3 }, []api.MapChange{other, moved}},
	} {
		a := code(9, "a", "b")
		a.Times, a.Step = 2, 4
		b := copyParam(a)
		c.change(&b)
		got, e := layout.Diff(mapOf(a), mapOf(b))
		wantErrno(t, c.name, e, api.OK)
		if len(got) > 0 || len(c.want) > 0 {
			wantSame(t, c.name, got, c.want)
		}
	}
}

// B4: those of a first, in its order, then the new ones, in the order of b.
func TestDiffOrder(t *testing.T) {
	a := mapOf(flag("gone-z", 4, 0), flag("moved", 5, 0), flag("same", 6, 0), flag("gone-a", 7, 0), code(8, "x"))
	b := mapOf(flag("new-z", 9, 0), code(8, "y"), flag("same", 6, 0), flag("new-a", 10, 0), flag("moved", 4, 0))
	b.Version = 99
	got, e := layout.Diff(a, b)
	wantErrno(t, "Diff", e, api.OK)
	wantSame(t, "Diff", got, []api.MapChange{
		{Name: "gone-z", Kind: api.ParamGone},
		{Name: "moved", Kind: api.ParamMoved},
		{Name: "gone-a", Kind: api.ParamGone},
		{Name: "code", Kind: api.ParamKind},
		{Name: "new-z", Kind: api.ParamNew},
		{Name: "new-a", Kind: api.ParamNew},
	})
	got, e = layout.Diff(a, a)
	wantErrno(t, "Diff", e, api.OK)
	wantNothing(t, "Diff of equal maps", got)
	got, e = layout.Diff(mapOf(), mapOf())
	wantErrno(t, "Diff", e, api.OK)
	wantNothing(t, "Diff of empty maps", got)
}

// B4
func TestDiffErrors(t *testing.T) {
	size := mapOf(make([]api.Param, 201)...)
	version := api.Map{Version: -1}
	got, e := layout.Diff(size, version)
	wantErrno(t, "a and b wrong", e, api.ErrSize)
	wantNothing(t, "Diff", got)
	got, e = layout.Diff(mapOf(), version)
	wantErrno(t, "b wrong", e, api.ErrRange)
	wantNothing(t, "Diff", got)
	_, e = layout.Diff(version, mapOf())
	wantErrno(t, "a wrong", e, api.ErrRange)
}

// B4
func TestWithout(t *testing.T) {
	m := mapOf(flag("a", 4, 0), code(9, "x", "y"), flag("b", 5, 0), speedAt(20))
	for _, c := range []struct {
		name  string
		names []string
		want  []api.Param
	}{
		{"none", nil, m.Params},
		{"the first one", []string{"a"}, m.Params[1:]},
		{"the last one", []string{"speed"}, m.Params[:3]},
		{"two", []string{"b", "code"}, []api.Param{m.Params[0], m.Params[3]}},
		{"one told twice", []string{"a", "a"}, m.Params[1:]},
		{"all", []string{"speed", "b", "code", "a"}, nil},
	} {
		got, e := layout.Without(m, c.names)
		wantErrno(t, c.name, e, api.OK)
		wantSame(t, c.name, got, api.Map{Version: 7, Params: c.want})
	}
	for _, names := range [][]string{{"c"}, {""}, {"a", "A"}, {"x"}, {"a", "b", "c"}, {"cod"}} {
		got, e := layout.Without(m, names)
		wantErrno(t, "Without", e, api.ErrNone)
		wantNothing(t, "Without", got)
	}
}

func speedAt(word int) api.Param {
	p := speed()
	p.Parts[0].Word, p.Parts[1].Word = word, word+1
	return p
}
