package layout_test

import (
	"slices"
	"testing"

	"orangebox/api"
	"orangebox/frame"
	"orangebox/layout"
)

// slowPack writes the bits of each cell, one by one.
func slowPack(t *testing.T, m api.Map, l []int) [16][]int {
	t.Helper()
	var data [16][]int
	for f := range data {
		data[f] = make([]int, 58)
		data[f][0] = m.Version
	}
	for i, c := range slowCells(m) {
		raw, e := layout.Encode(m.Params[c.Param], l[i])
		wantErrno(t, "Encode", e, api.OK)
		spots := spotsOf(c)
		for j, digit := range digitsOf(raw, len(spots)) {
			if s := spots[j]; digit == '1' {
				data[s.frame][s.word-3] += 1 << s.bit
			}
		}
	}
	return data
}

// odd is a map whose parameters have raw numbers that are no values.
func odd() api.Map {
	size, digit, code := wide(api.SignSize, 3), wide(api.Decimal, 4), wide(api.Code, 2)
	size.Name, digit.Name, code.Name = "size", "digit", "code"
	digit.Parts[0].Word, code.Parts[0].Word, code.Names = 21, 22, names(3)
	return mapOf(size, digit, code)
}

func packed(t *testing.T, m api.Map, l ...int) [16][]int {
	t.Helper()
	data, e := layout.Pack(m, l)
	wantErrno(t, "Pack", e, api.OK)
	return data
}

// B3: the example of the document.
func TestPackExample(t *testing.T) {
	l := make([]int, 16)
	l[5] = 8193
	data := packed(t, mapOf(speed()), l...)
	for f, list := range data {
		want := make([]int, 58)
		want[0] = 7
		if f == 5 {
			want[1], want[2] = 1024, 1<<8
		}
		wantSame(t, "data", list, want)
	}
}

// B3
func TestPackAndUnpackAsCounted(t *testing.T) {
	r := dice(7)
	for range 100 {
		m := someMap(r, 30)
		l := someValues(t, r, m)
		data := packed(t, m, l...)
		wantSame(t, "Pack", data, slowPack(t, m, l))
		u, e := layout.Unpack(m, data)
		wantErrno(t, "Unpack", e, api.OK)
		want := []api.Reading{}
		for i, c := range slowCells(m) {
			want = append(want, api.Reading{Param: c.Param, Index: c.Index, Value: l[i], Good: true})
		}
		wantSame(t, "Unpack", u, want)
	}
}

// B3
func TestPackOfNoCells(t *testing.T) {
	data := packed(t, mapOf())
	for _, list := range data {
		want := make([]int, 58)
		want[0] = 7
		wantSame(t, "data", list, want)
	}
	u, e := layout.Unpack(mapOf(), data)
	wantErrno(t, "Unpack", e, api.OK)
	wantNothing(t, "Unpack", u)
}

// B3
func TestPackErrors(t *testing.T) {
	m := odd()
	for _, c := range []struct {
		name string
		l    []int
		want api.Errno
	}{
		{"right", []int{-3, 9, 2}, api.OK},
		{"none", nil, api.ErrSize},
		{"too few", []int{0, 0}, api.ErrSize},
		{"too many", []int{0, 0, 0, 0}, api.ErrSize},
		{"too many, wrong ones", []int{99, 0, 0, 0}, api.ErrSize},
		{"the first one", []int{-4, 0, 0}, api.ErrRange},
		{"the second one", []int{0, 10, 0}, api.ErrRange},
		{"the last one", []int{0, 0, 3}, api.ErrRange},
	} {
		data, e := layout.Pack(m, c.l)
		wantErrno(t, c.name, e, c.want)
		if e != api.OK {
			wantNothing(t, c.name, data)
		}
	}
	for _, n := range beyond() {
		_, e := layout.Pack(m, []int{0, 0, n})
		wantErrno(t, "Pack", e, api.ErrRange)
	}
}

// B3: bits that are no value give a reading that is not good.
func TestUnpackOfNoValues(t *testing.T) {
	m := odd()
	data := packed(t, m, 0, 0, 0)
	data[0][20-3] = 4 << 2
	data[0][21-3] = 10 << 2
	data[0][22-3] = 3 << 2
	u, e := layout.Unpack(m, data)
	wantErrno(t, "Unpack", e, api.OK)
	wantSame(t, "Unpack", u, []api.Reading{{Param: 0}, {Param: 1}, {Param: 2}})
}

// B3: bits that no cell has, and words of other frames, change nothing.
func TestUnpackPassesOverOtherBits(t *testing.T) {
	m := odd()
	data := packed(t, m, -3, 9, 2)
	for f, list := range data {
		for i := range list {
			if i > 0 && (f > 0 || i < 20-3 || i > 22-3) {
				list[i] = 2047
			}
		}
	}
	data[0][20-3] |= 1 | 1<<1 | 63<<5
	u, e := layout.Unpack(m, data)
	wantErrno(t, "Unpack", e, api.OK)
	wantSame(t, "Unpack", u, []api.Reading{{Param: 0, Value: -3, Good: true}, {Param: 1, Value: 9, Good: true}, {Param: 2, Value: 2, Good: true}})
}

// B3
func TestUnpackErrors(t *testing.T) {
	m := odd()
	for _, c := range []struct {
		name   string
		change func(l *[16][]int)
		want   api.Errno
	}{
		{"nothing", func(l *[16][]int) {}, api.OK},
		{"no list", func(l *[16][]int) { l[0] = nil }, api.ErrSize},
		{"no last list", func(l *[16][]int) { l[15] = nil }, api.ErrSize},
		{"a short one", func(l *[16][]int) { l[3] = l[3][:57] }, api.ErrSize},
		{"a long one", func(l *[16][]int) { l[3] = append(l[3], 0) }, api.ErrSize},
		{"a long one that is wrong", func(l *[16][]int) { l[3] = append(l[3], -1) }, api.ErrSize},
		{"negative", func(l *[16][]int) { l[15][57] = -1 }, api.ErrRange},
		{"above 2047", func(l *[16][]int) { l[0][1] = 2048 }, api.ErrRange},
		{"the greatest", func(l *[16][]int) { l[0][1] = 2047 }, api.OK},
		{"a wrong datum ahead of a wrong list", func(l *[16][]int) { l[2][5] = -1; l[3] = nil }, api.ErrRange},
		{"a wrong list ahead of a wrong datum", func(l *[16][]int) { l[2] = nil; l[3][5] = -1 }, api.ErrSize},
		{"another version", func(l *[16][]int) { l[0][0] = 6 }, api.ErrState},
		{"another version at the end", func(l *[16][]int) { l[15][0] = 8 }, api.ErrState},
		{"another version ahead of a wrong list", func(l *[16][]int) { l[0][0] = 6; l[15] = nil }, api.ErrSize},
		{"another version ahead of a wrong datum", func(l *[16][]int) { l[0][0] = 6; l[15][9] = 2048 }, api.ErrRange},
		{"a wrong version", func(l *[16][]int) { l[4][0] = 2048 + 7 }, api.ErrRange},
	} {
		data := packed(t, m, 0, 0, 0)
		c.change(&data)
		u, e := layout.Unpack(m, data)
		wantErrno(t, c.name, e, c.want)
		if e != api.OK {
			wantNothing(t, c.name, u)
		}
	}
	for _, n := range beyond() {
		data := packed(t, m, 0, 0, 0)
		data[9][9] = n
		_, e := layout.Unpack(m, data)
		wantErrno(t, "Unpack", e, api.ErrRange)
	}
}

// B3: the frames are sound, have their numbers, and hold what Pack gives.
func TestBuild(t *testing.T) {
	r := dice(8)
	for _, first := range []int{0, 16, 2048, 16 * r.IntN(api.Number/16), api.Number - 16} {
		m := someMap(r, 30)
		l := someValues(t, r, m)
		data := packed(t, m, l...)
		built, e := layout.Build(m, first, l)
		wantErrno(t, "Build", e, api.OK)
		for i, f := range built {
			if flaws := frame.Flaws(f); len(flaws) > 0 {
				t.Errorf("frame %d is not sound: %v", i, flaws)
			}
			n, told := frame.Number(f)
			if n != first+i || !told {
				t.Errorf("frame %d has the number %d, %v", i, n, told)
			}
			values, _ := frame.Values(f)
			wantSame(t, "data", values, data[i])
		}
	}
}

// B3
func TestBuildErrors(t *testing.T) {
	m := odd()
	right := []int{0, 0, 0}
	for _, c := range []struct {
		name  string
		first int
		l     []int
		want  api.Errno
	}{
		{"too few values ahead of the number", -1, nil, api.ErrSize},
		{"a wrong value ahead of the number", -1, []int{0, 0, 3}, api.ErrRange},
		{"negative", -16, right, api.ErrRange},
		{"-1", -1, right, api.ErrRange},
		{"1", 1, right, api.ErrForm},
		{"8", 8, right, api.ErrForm},
		{"15", 15, right, api.ErrForm},
		{"17", 17, right, api.ErrForm},
		{"just below the last one", api.Number - 17, right, api.ErrForm},
		{"above the last one", api.Number - 15, right, api.ErrRange},
		{"api.Number", api.Number, right, api.ErrRange},
	} {
		built, e := layout.Build(m, c.first, c.l)
		wantErrno(t, c.name, e, c.want)
		wantNothing(t, c.name, built)
	}
	for _, n := range beyond() {
		if n < 0 || n > api.Number {
			_, e := layout.Build(m, n, right)
			wantErrno(t, "Build", e, api.ErrRange)
		}
	}
}

// B3: each word.
func TestVersion(t *testing.T) {
	for w := range 1 << 16 {
		var f api.Frame
		f[3] = uint16(w)
		version, told := layout.Version(f)
		ones := 0
		for bit := range 16 {
			ones += w >> bit & 1
		}
		want, wantTold := 0, w < 4096 && ones%2 == 1
		if wantTold {
			want = w % 2048
		}
		if version != want || told != wantTold {
			t.Fatalf("Version of %d: %d, %v", w, version, told)
		}
	}
	built, e := layout.Build(odd(), 32, []int{0, 0, 0})
	wantErrno(t, "Build", e, api.OK)
	for _, f := range built {
		f[4], f[20] = 65535, 0
		if version, told := layout.Version(f); version != 7 || !told {
			t.Errorf("Version: %d, %v", version, told)
		}
	}
}

// B3
func TestUsed(t *testing.T) {
	r := dice(9)
	for range 50 {
		m := someMap(r, 30)
		l, _ := owners(m)
		for _, number := range []int{0, 1, 15, 16, 33, r.IntN(api.Number), api.Number - 1} {
			want := []int{3}
			for s := range l {
				if s.frame == number%16 && !slices.Contains(want, s.word) {
					want = append(want, s.word)
				}
			}
			slices.Sort(want)
			used, e := layout.Used(m, number)
			wantErrno(t, "Used", e, api.OK)
			wantSame(t, "Used", used, want)
		}
	}
}

// B3
func TestUsedEdges(t *testing.T) {
	used, e := layout.Used(mapOf(), 5)
	wantErrno(t, "Used", e, api.OK)
	wantSame(t, "Used of no parameters", used, []int{3})
	late := flag("late", 60, 10)
	late.Parts[0].Frame = 15
	used, e = layout.Used(mapOf(late), 31)
	wantErrno(t, "Used", e, api.OK)
	wantSame(t, "Used", used, []int{3, 60})
	used, e = layout.Used(mapOf(late), 30)
	wantErrno(t, "Used", e, api.OK)
	wantSame(t, "Used", used, []int{3})
	for _, number := range []int{-1 << 63, -16, -1, api.Number, 1<<63 - 1} {
		used, e := layout.Used(mapOf(late), number)
		wantErrno(t, "Used", e, api.ErrRange)
		wantNothing(t, "Used", used)
	}
}
