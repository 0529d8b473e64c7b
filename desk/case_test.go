package desk_test

import (
	"fmt"
	"testing"

	"orangebox/api"
	"orangebox/desk"
	"orangebox/finding"
	"orangebox/layout"
	"orangebox/salvage"
	"orangebox/series"
)

// caseFaults are in the order in which they are asked for.
func caseFaults(t *testing.T) []fault[api.Case] {
	t.Helper()
	needs := ruled(t, "rule more if alt > 1 or z > 1").Rules[0]
	wrongTwins := many(finding.MaxTwins+1, func(int) api.Twins { return api.Twins{Most: -1} })
	return []fault[api.Case]{
		{"a version beyond", func(c *api.Case) { c.Map.Version = 2048 }, api.ErrRange},
		{"a parameter without a name", func(c *api.Case) { c.Map.Params[2].Name = "" }, api.ErrName},
		{"many sources", func(c *api.Case) { c.Sources = make([]api.Source, finding.MaxSources+1) }, api.ErrSize},
		{"a track without a name", func(c *api.Case) { c.Sources[1].Track = "A" }, api.ErrName},
		{"a track twice", func(c *api.Case) { c.Sources[2].Track = "alt" }, api.ErrTwice},
		{"a parameter that is not there", func(c *api.Case) { c.Sources[3].Param = "z" }, api.ErrNone},
		{"a phase twice", func(c *api.Case) { c.Rules.Phases = []string{"p", "p"} }, api.ErrTwice},
		{"a rule of phases that are not there", func(c *api.Case) { c.Rules.Rules[0].When = api.Cond{Kind: api.CondPhase, Name: "q"} }, api.ErrNone},
		{"a track that rules need", func(c *api.Case) { c.Rules.Rules = append(c.Rules.Rules[:2:2], needs) }, api.ErrNone},
		{"many twins", func(c *api.Case) { c.Twins = wrongTwins }, api.ErrSize},
		{"no A", func(c *api.Case) { c.Twins[0].A = "speeds" }, api.ErrNone},
		{"no B", func(c *api.Case) { c.Twins[0].B = "" }, api.ErrNone},
		{"a negative Most", func(c *api.Case) { c.Twins[0].Most = -1 }, api.ErrRange},
		{"Most beyond", func(c *api.Case) { c.Twins[0].Most = series.MaxN + 1 }, api.ErrRange},
		{"no B of the second twins", func(c *api.Case) { c.Twins[1].B = "load" }, api.ErrNone},
	}
}

func wantCase(t *testing.T, name string, c api.Case, want api.Errno) {
	t.Helper()
	wantErrno(t, name, desk.CheckCase(c), want)
}

// J1: each error of a case, ahead of those that are asked for behind it.
func TestCheckCase(t *testing.T) {
	base := func() api.Case { return someCase(t) }
	check := func(c api.Case) []any { return results(desk.CheckCase(c)) }
	wantInOrder(t, "CheckCase", base, check, caseFaults(t))
	for _, b := range beyond() {
		c := someCase(t)
		c.Twins[1].Most = b
		wantCase(t, fmt.Sprint("Most ", b), c, api.ErrRange)
		c.Map.Version = b
		wantCase(t, fmt.Sprint("Version ", b), c, api.ErrRange)
	}
}

// J1: limits are permitted themselves, and so is what nothing is said about.
func TestCasesWithoutErrors(t *testing.T) {
	wantCase(t, "an empty case", api.Case{}, api.OK)
	c := someCase(t)
	c.Twins = many(finding.MaxTwins, func(i int) api.Twins { return api.Twins{A: "alt", B: "alt", Most: series.MaxN} })
	wantCase(t, "many twins", c, api.OK)
	c.Sources = many(finding.MaxSources, func(i int) api.Source {
		return api.Source{Track: fmt.Sprint("t", i), Param: "speed", Long: series.MaxAt}
	})
	c.Rules, c.Twins = ruled(t, "phase p\nmove p p if t29 > t0\nrule a if true"), []api.Twins{{A: "t29", B: "t0"}}
	wantCase(t, "many sources", c, api.OK)
	c.Rules = ruled(t, "phase p\nmove p p if t29 > t30")
	wantCase(t, "a track that only a move needs", c, api.ErrNone)
}

// J1, J2, J4: functions with cases first return CheckCase's error.
func TestWrongCases(t *testing.T) {
	for _, f := range caseFaults(t) {
		c := someCase(t)
		f.make(&c)
		wantWrong(t, "Record: "+f.name, results(desk.Record(c, -1, make([][]int, desk.MaxSupers+1))), f.want)
		wantWrong(t, "Read: "+f.name, results(desk.Read(c, make([]api.Piece, salvage.MaxPieces+1))), f.want)
		wantWrong(t, "Report: "+f.name, results(desk.Report(c, api.Book{Map: api.Map{Version: -1}}, -1, -2)), f.want)
	}
}

// J1: the frames are those of the superframes, one behind the other.
func TestRecord(t *testing.T) {
	c := someCase(t)
	wantSame(t, "no superframes", recorded(t, c, 32), []api.Frame{})
	values := [][]int{superValues(1, 0), superValues(900, 2), superValues(2032, 1)}
	for _, first := range []int{0, 16, 4000, api.Number - 48} {
		var want []api.Frame
		for i, l := range values {
			super, e := layout.Build(c.Map, first+16*i, l)
			wantErrno(t, "Build", e, api.OK)
			want = append(want, super[:]...)
		}
		wantSame(t, fmt.Sprint("from ", first), recorded(t, c, first, values...), want)
	}
	c.Map, c.Sources, c.Rules, c.Twins = api.Map{Version: 9}, nil, api.Rules{}, nil
	frames := recorded(t, c, 0, many(desk.MaxSupers, func(int) []int { return nil })...)
	wantSame(t, "frames", len(frames), 3200)
	version, ok := layout.Version(frames[3199])
	wantSame(t, "the version of the last one", fmt.Sprint(version, ok), "9 true")
}

// J1: without superframes nothing is asked of the first frame.
func TestRecordOfNone(t *testing.T) {
	for _, first := range append(beyond(), -1, 5) {
		wantSame(t, "no superframes", recorded(t, someCase(t), first), []api.Frame{})
	}
}

// J1: the errors of Record, for each superframe in order.
func TestRecordErrors(t *testing.T) {
	type asked struct {
		c     api.Case
		first int
		l     [][]int
	}
	base := func() asked {
		return asked{someCase(t), 64, [][]int{superValues(1, 0), superValues(2, 0), superValues(3, 0)}}
	}
	record := func(x asked) []any { return results(desk.Record(x.c, x.first, x.l)) }
	wantInOrder(t, "Record", base, record, []fault[asked]{
		{"a wrong case", func(x *asked) { x.c.Twins[0].A = "" }, api.ErrNone},
		{"many superframes", func(x *asked) { x.l = make([][]int, desk.MaxSupers+1) }, api.ErrSize},
		{"few values", func(x *asked) { x.l[0] = x.l[0][1:] }, api.ErrSize},
		{"a value that is none", func(x *asked) { x.l[0][24] = 3 }, api.ErrRange},
		{"no multiple of 16", func(x *asked) { x.first++ }, api.ErrForm},
		{"a later value that is none", func(x *asked) { x.l[1][0] = -1 }, api.ErrRange},
		{"more values", func(x *asked) { x.l[2] = append(x.l[2], 0) }, api.ErrSize},
	})
	x := base()
	for _, first := range append(beyond(), -16, -1, api.Number-15, api.Number) {
		wantWrong(t, fmt.Sprint("from ", first), results(desk.Record(x.c, first, x.l)), api.ErrRange)
	}
	for _, first := range []int{api.Number - 32, api.Number - 16} {
		wantWrong(t, fmt.Sprint("from ", first), results(desk.Record(x.c, first, x.l)), api.ErrRange)
	}
}

// J2: a book has the map and the sources of the case, and what is salvaged.
func TestRead(t *testing.T) {
	c := someCase(t)
	l := crashed(t, stored(t, recorded(t, c, 16, superValues(1, 0), superValues(30, 1)), 1, memory(t, 2, 20)), []int{1001, 2500}, []int{1})
	rests, e := salvage.Salvage(l)
	wantErrno(t, "Salvage", e, api.OK)
	b := readOf(t, c, l)
	wantSame(t, "Read", b, api.Book{Map: c.Map, Sources: c.Sources, Rests: rests})
	wantSame(t, "some rests", len(b.Rests) > 8, true)
	wantSame(t, "of no pieces", readOf(t, c, nil), api.Book{Map: c.Map, Sources: c.Sources})
	wantSame(t, "of nothing", readOf(t, api.Case{}, nil), api.Book{})
}

// J2: the errors of Read in their order.
func TestReadErrors(t *testing.T) {
	type asked struct {
		c api.Case
		l []api.Piece
	}
	base := func() asked { return asked{someCase(t), nil} }
	far := func(numbers ...int) []api.Piece {
		var l []api.Piece
		for _, n := range numbers {
			l = append(l, crashed(t, stored(t, recorded(t, someCase(t), n, superValues(1, 0)), 1, memory(t, 2, 16)), nil, nil)...)
		}
		return l
	}
	wantInOrder(t, "Read", base, func(x asked) []any { return results(desk.Read(x.c, x.l)) }, []fault[asked]{
		{"a wrong case", func(x *asked) { x.c.Rules.Phases = []string{"p", "p"} }, api.ErrTwice},
		{"many pieces", func(x *asked) { x.l = make([]api.Piece, salvage.MaxPieces+1) }, api.ErrSize},
		{"a wrong piece", func(x *asked) { x.l = []api.Piece{{Half: true}} }, api.ErrForm},
		{"numbers far apart", func(x *asked) { x.l = far(0, 16, 100000-100000%16+16) }, api.ErrSize},
		{"many samples", func(x *asked) { x.l = far(0, 20000) }, api.ErrSize},
	})
	wantErrno(t, "fewer samples", finding.CheckBook(readOf(t, someCase(t), far(0, 19968))), api.OK)
}
