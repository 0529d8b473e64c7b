package layout_test

import (
	"strconv"
	"strings"
	"testing"

	"orangebox/api"
	"orangebox/layout"
)

func printed(t *testing.T, m api.Map) string {
	t.Helper()
	s, e := layout.Print(m)
	wantErrno(t, "Print", e, api.OK)
	return s
}

func wantRead(t *testing.T, name, s string, want api.Map) {
	t.Helper()
	m, line, e := layout.Read(s)
	wantErrno(t, name, e, api.OK)
	if line != 0 {
		t.Errorf("%s: line %d without an error", name, line)
	}
	wantSame(t, name, m, want)
}

func wantWrong(t *testing.T, name, s string, line int, want api.Errno) {
	t.Helper()
	m, n, e := layout.Read(s)
	if n != line || e != want {
		t.Errorf("%s: line %d, error %d, want %d, %d", name, n, e, line, want)
	}
	wantNothing(t, name, m)
}

// B5: each kind, parts, times and names.
func TestPrint(t *testing.T) {
	m := mapOf(speed(), code(9, "up", "down"))
	m.Version = 0
	for i, kind := range []int{api.Unsigned, api.Signed, api.SignSize, api.Decimal} {
		p := wide(kind, 8)
		p.Name = "k" + strconv.Itoa(kind)
		p.Parts[0].Word, p.Parts[1].Word, p.Parts[1].Frame = 20+2*i, 21+2*i, 3
		m.Params = append(m.Params, p)
	}
	often := flag("often-2", 40, 10)
	often.First, often.Every, often.Times, often.Step = 7, 8, 11, 2
	m.Params = append(m.Params, often)
	want := strings.Join([]string{
		"map 0",
		"param speed unsigned first 0 every 1", "part 0 4 0 11", "part 0 5 8 3",
		"param code code first 0 every 16", "part 0 9 2 5", "name up", "name down",
		"param k1 unsigned first 0 every 16", "part 0 20 2 7", "part 3 21 2 1",
		"param k2 signed first 0 every 16", "part 0 22 2 7", "part 3 23 2 1",
		"param k3 sign-size first 0 every 16", "part 0 24 2 7", "part 3 25 2 1",
		"param k4 decimal first 0 every 16", "part 0 26 2 7", "part 3 27 2 1",
		"param often-2 flag first 7 every 8 times 11 step 2", "part 0 40 10 1",
		"",
	}, "\n")
	wantSame(t, "Print", printed(t, m), want)
	wantRead(t, "Read", want, m)
	wantSame(t, "Print of no parameters", printed(t, api.Map{Version: 2047}), "map 2047\n")
	wantRead(t, "Read of no parameters", "map 2047\n", api.Map{Version: 2047})
}

// B5
func TestReadOfPrint(t *testing.T) {
	r := dice(10)
	for range 200 {
		m := someMap(r, 30)
		wantRead(t, "Read of Print", printed(t, m), m)
	}
}

// long is a map that prints as so many bytes, from 3000 on.
func long(t *testing.T, size int) api.Map {
	t.Helper()
	m := api.Map{Version: 1}
	for i := range 200 {
		p := code(4+i%57, names(1)...)
		p.Name, p.Parts[0].Low, p.Parts[0].Bits = "p"+strconv.Itoa(100+i), i/57%2*5, 5
		m.Params = append(m.Params, p)
	}
	m.Params = m.Params[:100]
	for i := range m.Params {
		grow(t, &m, i, size)
	}
	if s := printed(t, m); len(s) != size {
		t.Fatalf("%d bytes, want %d", len(s), size)
	}
	return m
}

// grow gives a code longer names, and more of them, up to a size.
func grow(t *testing.T, m *api.Map, i, size int) {
	t.Helper()
	p := &m.Params[i]
	left := size - len(printed(t, *m))
	for j := 1; j < 31 && left >= 13; j++ {
		length := min(30, left-6)
		if left-6-length > 0 && left-6-length < 13 {
			length -= 13
		}
		p.Names = append(p.Names, strings.Repeat("x", length-3)+"-"+strconv.Itoa(10+j))
		left -= 6 + length
	}
}

// B5: MaxText is permitted itself, for Print and Read.
func TestLongTexts(t *testing.T) {
	m := long(t, layout.MaxText)
	s := printed(t, m)
	wantRead(t, "MaxText", s, m)
	wantRead(t, "MaxText without the last line feed", s[:len(s)-1], m)
	wantWrong(t, "more than MaxText", s+"\n", 0, api.ErrSize)
	wantWrong(t, "more than MaxText, wrong", strings.Repeat("?\n", 50001), 0, api.ErrSize)
	wantWrong(t, "MaxText, wrong", strings.Repeat("\n", 99999)+"?", 99999, api.ErrSyntax)
	wantRead(t, "MaxText of blanks", "map 1"+strings.Repeat(" ", 99995), api.Map{Version: 1})
	last := &m.Params[0]
	last.Name += "x"
	got, e := layout.Print(m)
	wantErrno(t, "more than MaxText", e, api.ErrSize)
	wantNothing(t, "Print", got)
	m.Version = -1
	_, e = layout.Print(m)
	wantErrno(t, "Check's error is first", e, api.ErrRange)
}

// B5
func TestReadPassesOver(t *testing.T) {
	m := mapOf(flag("a", 4, 0), code(9, "x"))
	for _, s := range []string{
		"map 7\nparam a flag first 0 every 16\npart 0 4 0 1\nparam code code first 0 every 16\npart 0 9 2 5\nname x",
		"\n\n  \n# map 9\n  # \nmap 7\n\nparam a flag first 0 every 16\n\npart 0 4 0 1\n\nparam code code first 0 every 16\npart 0 9 2 5\n   \nname x\n\n\n",
		"  map   7  # the version\n   param  a flag   first 0  every  16\n part 0  4 0 1   \nparam code code first 0 every 16#\npart 0 9 2 5#6 7 8\nname x## y\n# the end",
		"map 7#map 8\nparam a flag first 0 every 16#times 2 step 3\npart 0 4 0 1\nparam code code first 0 every 16\npart 0 9 2 5\nname x#y",
	} {
		wantRead(t, strconv.Quote(s), s, m)
	}
}

// B5
func TestReadSyntax(t *testing.T) {
	const head = "map 7\nparam a flag first 0 every 16\npart 0 4 0 1\n"
	for _, c := range []struct {
		s    string
		line int
	}{
		{"", 0},
		{"\n", 1},
		{"  ", 1},
		{"\n \n# map 7\n", 3},
		{"param a flag first 0 every 16\nmap 7\n", 0},
		{"\npart 0 4 0 1\n", 1},
		{"map", 0},
		{"\n\nmap 7 8", 2},
		{"Map 7", 0},
		{"map7", 0},
		{"map 07", 0},
		{"map +7", 0},
		{"map -7", 0},
		{"map 7.", 0},
		{"map 0x7", 0},
		{"map 1_0", 0},
		{"map seven", 0},
		{"map \xd9\xa7", 0},
		{"map 1000000", 0},
		{"map 99999999999999999999", 0},
		{"map 7\r\n", 0},
		{"map\t7", 0},
		{"\tmap 7", 0},
		{"\v\nmap 7", 0},
		{"map 7\u00a0", 0},
		{"map 7\x00", 0},
		{"map 7\nmap 7\n", 1},
		{head + "map 7\n", 3},
		{"map 7\nname x\n", 1},
		{"map 7\n\npart 0 4 0 1\n", 2},
		{head + "name x\npart 0 4 0 1\n", 4},
		{head + "name x\n\nname y\npart 0 4 0 1\n", 6},
		{head + "part 0 4 0\n", 3},
		{head + "part 0 4 0 1 1\n", 3},
		{head + "part 0 4 0 01\n", 3},
		{head + "part 00 4 0 1\n", 3},
		{head + "part 0 -4 0 1\n", 3},
		{head + "part 0 4 0 1000000\n", 3},
		{head + "part 0 4 x 1\n", 3},
		{head + "part\n", 3},
		{head + "name\n", 3},
		{head + "name x y\n", 3},
		{head + "parts 0 4 0 1\n", 3},
		{head + "kind flag\n", 3},
		{head + "param\n", 3},
		{head + "param b\n", 3},
		{head + "param b flag\n", 3},
		{head + "param b flag first 0\n", 3},
		{head + "param b flag first 0 every\n", 3},
		{head + "param b flag first 0 every 16 17\n", 3},
		{head + "param b flag first 0 every 16 times 2\n", 3},
		{head + "param b flag first 0 every 16 times 2 step\n", 3},
		{head + "param b flag first 0 every 16 times 2 step 1 1\n", 3},
		{head + "param b flag first 0 every 16 step 1 times 2\n", 3},
		{head + "param b flag first 0 every 16 times 1 step 0\n", 3},
		{head + "param b flag first 0 every 16 times 1 step 1\n", 3},
		{head + "param b flag every 16 first 0\n", 3},
		{head + "param b flag First 0 every 16\n", 3},
		{head + "param b flag first 00 every 16\n", 3},
		{head + "param b flag first 0 every 016\n", 3},
		{head + "param b flag first 0 every 16 times 02 step 1\n", 3},
		{head + "param b flag first 0 every 16 times 2 step 1000000\n", 3},
		{head + "param b flag first 0 every 16 times two step 1\n", 3},
		{head + "param b Flag first 0 every 16\n", 3},
		{head + "param b 5 first 0 every 16\n", 3},
		{head + "param b signsize first 0 every 16\n", 3},
		{head + "param flag first 0 every 16\n", 3},
		{head + "param b flag # first 0 every 16\n", 3},
		{head + "?\nmap 7\n", 3},
	} {
		wantWrong(t, strconv.Quote(c.s), c.s, c.line, api.ErrSyntax)
	}
}

// B5: Check's errors come behind all lines, with the line of the parameter or of map.
func TestReadCheck(t *testing.T) {
	const head = "\n# a map\nmap 7\nparam a flag first 0 every 16\npart 0 4 0 1\n"
	many := head
	for range 200 {
		many += "param a flag first 0 every 16\n"
	}
	for _, c := range []struct {
		name string
		s    string
		line int
		want api.Errno
	}{
		{"version", "\n\nmap 2048\n", 2, api.ErrRange},
		{"version of 6 digits", "map 999999\nparam A flag first 0 every 16\n", 0, api.ErrRange},
		{"version behind all lines", "map 2048\n?\n", 1, api.ErrSyntax},
		{"more than MaxParams", many, 2, api.ErrSize},
		{"no part", head + "\nparam b flag first 0 every 16\n\n", 6, api.ErrEmpty},
		{"name of a parameter", head + "param B flag first 0 every 16\npart 0 5 0 1\n", 5, api.ErrName},
		{"equal names", head + "param a flag first 0 every 16\npart 0 5 0 1\n", 5, api.ErrTwice},
		{"equal bits", head + "param b flag first 0 every 16\npart 0 5 0 1\nparam c flag first 0 every 1\n\npart 0 4 0 1", 7, api.ErrTwice},
		{"a part", head + "param b flag first 0 every 16\npart 0 61 0 1", 5, api.ErrRange},
		{"every", head + "param b flag first 0 every 3\npart 0 5 0 1", 5, api.ErrRange},
		{"times 0", head + "param b flag first 0 every 16 times 0 step 0\npart 0 5 0 1", 5, api.ErrRange},
		{"times without a step", head + "param b flag first 0 every 16 times 2 step 0\npart 0 5 0 1", 5, api.ErrRange},
		{"names of a flag", head + "name x\n", 3, api.ErrForm},
		{"a code without names", head + "param b code first 0 every 16\npart 0 5 0 1", 5, api.ErrEmpty},
		{"a name of a code", head + "param b code first 0 every 16\npart 0 5 0 1\nname x\nname Y", 5, api.ErrName},
		{"many parts", head + "param b unsigned first 0 every 16\n" + strings.Repeat("part 0 5 0 1\n", 9), 5, api.ErrSize},
		{"syntax behind another error", head + "param B flag first 0 every 16\nparam c flag\n", 6, api.ErrSyntax},
	} {
		wantWrong(t, c.name, c.s, c.line, c.want)
	}
}
