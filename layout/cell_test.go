package layout_test

import (
	"strconv"
	"testing"

	"orangebox/api"
	"orangebox/layout"
)

func wantCheck(t *testing.T, name string, m api.Map, number int, want api.Errno) {
	t.Helper()
	n, e := layout.Check(m)
	if n != number || e != want {
		t.Errorf("%s: Check is %d, %d, want %d, %d", name, n, e, number, want)
	}
}

func flags(n int) []api.Param {
	var l []api.Param
	for i := range n {
		l = append(l, flag("f"+strconv.Itoa(i), 4+i/11, i%11))
	}
	return l
}

// B2
func TestVersions(t *testing.T) {
	for _, version := range []int{0, 1, 2047} {
		wantCheck(t, "version", api.Map{Version: version, Params: []api.Param{speed()}}, 0, api.OK)
		wantCheck(t, "version, no parameters", api.Map{Version: version}, 0, api.OK)
	}
	for _, version := range beyond() {
		wantCheck(t, "version", api.Map{Version: version}, 0, api.ErrRange)
		wantCheck(t, "version ahead of the rest", api.Map{Version: version, Params: make([]api.Param, 201)}, 0, api.ErrRange)
	}
}

// B2
func TestNumberOfParams(t *testing.T) {
	wantCheck(t, "MaxParams", mapOf(flags(200)...), 0, api.OK)
	wantCheck(t, "more than MaxParams", mapOf(flags(201)...), 0, api.ErrSize)
	wantCheck(t, "more than MaxParams, wrong ones", mapOf(make([]api.Param, 201)...), 0, api.ErrSize)
}

// B2
func TestNumberOfCells(t *testing.T) {
	params := []api.Param{row("a", 4, 57, 0, 1), row("b", 4, 57, 1, 1), row("c", 4, 57, 2, 1), row("d", 4, 57, 3, 1), row("e", 4, 22, 4, 1)}
	wantCheck(t, "MaxCells", mapOf(params...), 0, api.OK)
	if l, e := layout.Cells(mapOf(params...)); e != api.OK || len(l) != layout.MaxCells {
		t.Errorf("Cells: %d, error %d", len(l), e)
	}
	wantCheck(t, "one more", mapOf(append(params, flag("f", 4, 5))...), 5, api.ErrSize)
	wantCheck(t, "one more, with a bit that is taken", mapOf(append(params, flag("f", 4, 0))...), 5, api.ErrSize)
	wantCheck(t, "two more parameters", mapOf(append(params, flag("f", 4, 5), flag("g", 4, 6))...), 5, api.ErrSize)
	wantCheck(t, "a bit that is taken ahead", mapOf(append(params[:4:4], flag("e", 4, 0), row("f", 4, 22, 4, 1))...), 5, api.ErrSize)
}

// B2
func TestMapErrors(t *testing.T) {
	wrong := flag("w", 4, 0)
	wrong.Kind = 9
	for _, c := range []struct {
		name   string
		params []api.Param
		number int
		want   api.Errno
	}{
		{"a wrong parameter", []api.Param{speed(), wrong}, 1, api.ErrKind},
		{"two wrong parameters", []api.Param{flag("A", 9, 0), wrong}, 0, api.ErrName},
		{"equal names", []api.Param{flag("a", 4, 0), flag("b", 4, 1), flag("a", 4, 2)}, 2, api.ErrTwice},
		{"a wrong parameter with an equal name", []api.Param{flag("w", 4, 1), wrong}, 1, api.ErrKind},
		{"equal names ahead of a wrong parameter", []api.Param{flag("a", 4, 0), flag("a", 4, 1), wrong}, 1, api.ErrTwice},
		{"equal bits", []api.Param{flag("a", 4, 0), flag("b", 4, 1), flag("c", 4, 0)}, 2, api.ErrTwice},
		{"equal bits twice", []api.Param{flag("a", 4, 0), flag("b", 4, 0), flag("c", 4, 0)}, 1, api.ErrTwice},
		{"equal bits ahead of a wrong parameter", []api.Param{flag("a", 4, 0), flag("b", 4, 0), wrong}, 2, api.ErrKind},
		{"equal bits ahead of equal names", []api.Param{flag("a", 4, 0), flag("b", 4, 0), flag("c", 5, 0), flag("c", 6, 0)}, 3, api.ErrTwice},
		{"the last sample of all", []api.Param{row("a", 4, 57, 0, 11), {Name: "b", Kind: api.Flag, Parts: []api.Part{{Frame: 15, Word: 60, Low: 10, Bits: 1}}, Every: 16, Times: 1}}, 1, api.ErrTwice},
		{"none", nil, 0, api.OK},
	} {
		wantCheck(t, c.name, mapOf(c.params...), c.number, c.want)
	}
}

// B2: bits in common are those that the cells show.
func TestBitsOfTwoAsCounted(t *testing.T) {
	r := dice(2)
	var seen [2]int
	for range 20000 {
		p, q := some(r, "p", 30), some(r, "q", 30)
		if layout.CheckParam(p) != api.OK || layout.CheckParam(q) != api.OK {
			continue
		}
		n, e := layout.Check(mapOf(p, q))
		want := api.OK
		_, twice := owners(mapOf(p, q))
		if twice {
			want = api.ErrTwice
			seen[1]++
		} else {
			seen[0]++
		}
		if e != want || (n == 1) != twice {
			t.Fatalf("%v, %v: Check is %d, %d, want error %d", p, q, n, e, want)
		}
	}
	if seen[0] < 1000 || seen[1] < 1000 {
		t.Errorf("too few of a kind: %v", seen)
	}
}

// B2: the example of the document has 16 cells.
func TestCells(t *testing.T) {
	l, e := layout.Cells(mapOf(speed()))
	wantErrno(t, "Cells", e, api.OK)
	if len(l) != 16 {
		t.Fatalf("%d cells", len(l))
	}
	for f, c := range l {
		wantSame(t, "cell", c, api.Cell{Index: f, Frame: f, Places: []api.Place{{Frame: f, Word: 4, Bits: 11}, {Frame: f, Word: 5, Low: 8, Bits: 3}}})
	}
	l, e = layout.Cells(mapOf())
	wantErrno(t, "Cells of none", e, api.OK)
	wantNothing(t, "Cells of none", l)
}

// B2: samples in later frames and words, and those that would go beyond the superframe.
func TestCellsOfManySamples(t *testing.T) {
	p := api.Param{Name: "p", Kind: api.Unsigned, Parts: []api.Part{{Frame: 1, Word: 9, Low: 3, Bits: 2}, {Word: 4, Bits: 1}}, First: 3, Every: 4, Times: 2, Step: 7}
	l, e := layout.Cells(mapOf(flag("f", 50, 2), p))
	wantErrno(t, "Cells", e, api.OK)
	want := []api.Cell{{Places: []api.Place{{Word: 50, Low: 2, Bits: 1}}}}
	for i := range 6 {
		f, moved := 3+i/2*4, i%2*7
		want = append(want, api.Cell{Param: 1, Index: i, Frame: f, Places: []api.Place{{Frame: f + 1, Word: 9 + moved, Low: 3, Bits: 2}, {Frame: f, Word: 4 + moved, Bits: 1}}})
	}
	wantSame(t, "Cells", l, want)
}

// B2
func TestCellsAsCounted(t *testing.T) {
	r := dice(3)
	for range 300 {
		m := someMap(r, 30)
		l, e := layout.Cells(m)
		wantErrno(t, "Cells", e, api.OK)
		wantSame(t, "Cells", l, slowCells(m))
	}
}

// B2: each bit of the superframe.
func TestOwner(t *testing.T) {
	r := dice(4)
	for range 2 {
		m := someMap(r, 30)
		l, _ := owners(m)
		for f := range 16 {
			for word := range 64 {
				bit := r.IntN(11)
				c, ok, e := layout.Owner(m, f, word, bit)
				want, has := l[spot{f, word, bit}]
				if e != api.OK || ok != has {
					t.Fatalf("Owner of %d, %d, %d: %v, error %d", f, word, bit, ok, e)
				}
				wantSame(t, "Owner", c, want)
			}
		}
		for s, want := range l {
			c, ok, e := layout.Owner(m, s.frame, s.word, s.bit)
			if e != api.OK || !ok {
				t.Fatalf("Owner of %v: %v, error %d", s, ok, e)
			}
			wantSame(t, "Owner", c, want)
		}
	}
}

// B2
func TestOwnerErrors(t *testing.T) {
	m := mapOf(row("a", 4, 57, 0, 11))
	for _, n := range append(beyond(), 64) {
		for _, s := range []spot{{n, 4, 0}, {0, n, 0}, {0, 4, n}} {
			c, ok, e := layout.Owner(m, s.frame, s.word, s.bit)
			wantErrno(t, "Owner", e, api.ErrRange)
			wantNothing(t, "Owner", c, ok)
		}
	}
	for _, s := range []spot{{16, 4, 0}, {0, 64, 0}, {0, 4, 11}} {
		_, _, e := layout.Owner(m, s.frame, s.word, s.bit)
		wantErrno(t, "Owner", e, api.ErrRange)
	}
	for _, s := range []spot{{0, 0, 0}, {15, 3, 10}, {15, 61, 10}, {0, 63, 0}} {
		c, ok, e := layout.Owner(m, s.frame, s.word, s.bit)
		wantErrno(t, "Owner", e, api.OK)
		wantNothing(t, "Owner", c, ok)
	}
}

// B2
func TestRoom(t *testing.T) {
	full, e := layout.Room(mapOf(row("a", 4, 57, 0, 11)))
	wantErrno(t, "Room", e, api.OK)
	wantNothing(t, "Room", full)
	r := dice(5)
	for i := range 100 {
		m := someMap(r, 30)
		if i == 0 {
			m = mapOf()
		}
		room, e := layout.Room(m)
		wantErrno(t, "Room", e, api.OK)
		var want [16]int
		l, _ := owners(m)
		for f := range want {
			for word := 4; word <= 60; word++ {
				for bit := range 11 {
					if _, taken := l[spot{f, word, bit}]; !taken {
						want[f]++
					}
				}
			}
		}
		wantSame(t, "Room", room, want)
	}
}

// B2: functions with maps first return Check's error.
func TestMapFunctionsCheck(t *testing.T) {
	m := mapOf(flag("a", 4, 0), flag("b", 4, 0))
	l, e := layout.Cells(m)
	wantErrno(t, "Cells", e, api.ErrTwice)
	c, ok, e := layout.Owner(m, -1, 0, 0)
	wantErrno(t, "Owner", e, api.ErrTwice)
	room, e := layout.Room(m)
	wantErrno(t, "Room", e, api.ErrTwice)
	p, e := layout.Fit(m, api.Param{})
	wantErrno(t, "Fit", e, api.ErrTwice)
	data, e := layout.Pack(m, nil)
	wantErrno(t, "Pack", e, api.ErrTwice)
	u, e := layout.Unpack(m, [16][]int{})
	wantErrno(t, "Unpack", e, api.ErrTwice)
	built, e := layout.Build(m, -1, nil)
	wantErrno(t, "Build", e, api.ErrTwice)
	used, e := layout.Used(m, -1)
	wantErrno(t, "Used", e, api.ErrTwice)
	changes, e := layout.Diff(m, api.Map{Version: -1})
	wantErrno(t, "Diff", e, api.ErrTwice)
	left, e := layout.Without(m, []string{"c"})
	wantErrno(t, "Without", e, api.ErrTwice)
	s, e := layout.Print(m)
	wantErrno(t, "Print", e, api.ErrTwice)
	wantNothing(t, "with a wrong map", l, c, ok, room, p, data, u, built, used, changes, left, s)
}
