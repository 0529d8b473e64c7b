package layout_test

import (
	"math"
	"slices"
	"strconv"
	"strings"
	"testing"

	"orangebox/api"
	"orangebox/layout"
)

// B1: the example of the document.
func TestBits(t *testing.T) {
	n, e := layout.Bits(speed())
	wantErrno(t, "Bits", e, api.OK)
	if n != 14 {
		t.Errorf("Bits: got %d, want 14", n)
	}
	for bits := 1; bits <= layout.MaxBits; bits++ {
		n, e := layout.Bits(wide(api.Unsigned, bits))
		wantErrno(t, "Bits", e, api.OK)
		if n != bits {
			t.Errorf("Bits: got %d, want %d", n, bits)
		}
	}
}

// B1
func TestParamNames(t *testing.T) {
	for _, name := range []string{"a", "z", "a0", "z9-", "a--b", strings.Repeat("q", 30)} {
		p := speed()
		p.Name = name
		wantErrno(t, strconv.Quote(name), layout.CheckParam(p), api.OK)
		q := wide(api.Code, 3)
		q.Names = []string{name}
		wantErrno(t, strconv.Quote(name), layout.CheckParam(q), api.OK)
	}
	for _, name := range []string{"", "A", "0", "-", "0a", "-a", "aB", "a b", "a_", "a.b", "a`", "a{", "a/", "a:", "é", "aé", "a\xff", "a\x00", "a\n", " a", strings.Repeat("q", 31)} {
		p := speed()
		p.Name = name
		wantErrno(t, strconv.Quote(name), layout.CheckParam(p), api.ErrName)
		q := wide(api.Code, 3)
		q.Names = []string{"a", name}
		wantErrno(t, strconv.Quote(name), layout.CheckParam(q), api.ErrName)
	}
}

// B1
func TestParamKinds(t *testing.T) {
	for _, kind := range append(beyond(), 0, 7, 8, 255) {
		p := speed()
		p.Kind = kind
		wantErrno(t, "kind "+strconv.Itoa(kind), layout.CheckParam(p), api.ErrKind)
	}
}

// B1
func TestParts(t *testing.T) {
	many := func(n, bits int) []api.Part {
		var l []api.Part
		for i := range n {
			l = append(l, api.Part{Word: 10 + i, Bits: bits})
		}
		return l
	}
	for _, c := range []struct {
		name  string
		parts []api.Part
		want  api.Errno
	}{
		{"none", nil, api.ErrEmpty},
		{"empty", []api.Part{}, api.ErrEmpty},
		{"MaxParts", many(8, 5), api.OK},
		{"more than MaxParts", many(9, 1), api.ErrSize},
		{"more than MaxParts, wrong", many(9, 0), api.ErrSize},
		{"more than MaxBits", append(many(7, 5), api.Part{Word: 4, Bits: 6}), api.ErrSize},
		{"more than MaxBits, wrong", append(many(7, 11), api.Part{Word: 3, Bits: 6}), api.ErrRange},
		{"all bits of a word", []api.Part{{Word: 4, Bits: 11}}, api.OK},
		{"Frame 15", []api.Part{{Frame: 15, Word: 4, Bits: 1}}, api.OK},
		{"Frame 16", []api.Part{{Frame: 16, Word: 4, Bits: 1}}, api.ErrRange},
		{"Word 3", []api.Part{{Word: 3, Bits: 1}}, api.ErrRange},
		{"Word 60", []api.Part{{Word: 60, Bits: 1}}, api.OK},
		{"Word 61", []api.Part{{Word: 61, Bits: 1}}, api.ErrRange},
		{"Low 10", []api.Part{{Word: 4, Low: 10, Bits: 1}}, api.OK},
		{"Low 11", []api.Part{{Word: 4, Low: 11, Bits: 1}}, api.ErrRange},
		{"Low 11, no bits", []api.Part{{Word: 4, Low: 11}}, api.ErrRange},
		{"no bits", []api.Part{{Word: 4}}, api.ErrRange},
		{"12 bits", []api.Part{{Word: 4, Bits: 12}}, api.ErrRange},
		{"one bit too many", []api.Part{{Word: 4, Low: 7, Bits: 5}}, api.ErrRange},
		{"the second one", []api.Part{{Word: 4, Bits: 1}, {Word: 4, Low: 1}}, api.ErrRange},
	} {
		p := speed()
		p.Parts = c.parts
		wantErrno(t, c.name, layout.CheckParam(p), c.want)
	}
	for _, n := range beyond() {
		for _, part := range []api.Part{{Frame: n, Word: 4, Bits: 1}, {Word: n, Bits: 1}, {Word: 4, Low: n, Bits: 1}, {Word: 4, Bits: n}, {Word: 4, Low: n, Bits: n}} {
			p := speed()
			p.Parts = []api.Part{{Word: 9, Bits: 1}, part}
			wantErrno(t, "part", layout.CheckParam(p), api.ErrRange)
		}
	}
}

// B1
func TestEveryAndFirst(t *testing.T) {
	rights := []int{1, 2, 4, 8, 16}
	for every := -20; every <= 40; every++ {
		for first := -3; first <= 20; first++ {
			p := speed()
			p.Every, p.First = every, first
			want := api.ErrRange
			if slices.Contains(rights, every) && first >= 0 && first < every {
				want = api.OK
			}
			wantErrno(t, "every "+strconv.Itoa(every)+" first "+strconv.Itoa(first), layout.CheckParam(p), want)
		}
	}
	for _, n := range beyond() {
		p, q := speed(), speed()
		p.Every, q.First = n, n
		wantErrno(t, "Every", layout.CheckParam(p), api.ErrRange)
		wantErrno(t, "First", layout.CheckParam(q), api.ErrRange)
	}
}

// B1
func TestTimesAndStep(t *testing.T) {
	for _, c := range []struct {
		word, times, step int
		want              api.Errno
	}{
		{4, 1, 0, api.OK},
		{60, 1, 0, api.OK},
		{4, 57, 1, api.OK},
		{5, 57, 1, api.ErrRange},
		{4, 58, 1, api.ErrRange},
		{4, 2, 56, api.OK},
		{4, 2, 57, api.ErrRange},
		{4, 3, 28, api.OK},
		{4, 3, 29, api.ErrRange},
		{5, 3, 28, api.ErrRange},
		{59, 2, 1, api.OK},
		{60, 2, 1, api.ErrRange},
		{4, 0, 0, api.ErrRange},
		{4, 0, 1, api.ErrRange},
		{4, -1, 1, api.ErrRange},
		{4, 1, 1, api.ErrRange},
		{4, 2, 0, api.ErrRange},
		{4, 2, -1, api.ErrRange},
		{4, 1, -1, api.ErrRange},
		{4, 5, 1 << 62, api.ErrRange},
		{4, 17, 1 << 60, api.ErrRange},
		{4, 3, math.MaxInt, api.ErrRange},
		{4, 57, math.MinInt, api.ErrRange},
		{4, math.MaxInt, 1, api.ErrRange},
		{4, math.MinInt, 1, api.ErrRange},
	} {
		p := flag("a", 4, 3)
		p.Parts[0].Word, p.Times, p.Step = c.word, c.times, c.step
		wantErrno(t, "word "+strconv.Itoa(c.word)+" times "+strconv.Itoa(c.times)+" step "+strconv.Itoa(c.step), layout.CheckParam(p), c.want)
	}
	p := speed()
	p.Parts[1].Word, p.Times, p.Step = 50, 2, 11
	wantErrno(t, "the second part moved", layout.CheckParam(p), api.ErrRange)
	p.Step = 10
	wantErrno(t, "the second part moved", layout.CheckParam(p), api.OK)
}

// B1
func TestForms(t *testing.T) {
	for bits := 1; bits <= layout.MaxBits; bits++ {
		for kind := api.Unsigned; kind <= api.Code; kind++ {
			p := wide(kind, bits)
			right := true
			switch kind {
			case api.Signed, api.SignSize:
				right = bits != 1
			case api.Decimal:
				right = bits%4 == 0
			case api.Flag:
				right = bits == 1
			case api.Code:
				p.Names = names(2)
			}
			want := api.ErrForm
			if right {
				want = api.OK
			}
			wantErrno(t, "kind "+strconv.Itoa(kind)+" bits "+strconv.Itoa(bits), layout.CheckParam(p), want)
			if kind != api.Code {
				p.Names = []string{"a"}
				wantErrno(t, "names", layout.CheckParam(p), api.ErrForm)
			}
		}
	}
}

// B1
func TestNames(t *testing.T) {
	for _, c := range []struct {
		name  string
		bits  int
		names []string
		want  api.Errno
	}{
		{"none", 3, nil, api.ErrEmpty},
		{"one", 3, names(1), api.OK},
		{"2^n", 3, names(8), api.OK},
		{"more than 2^n", 3, names(9), api.ErrSize},
		{"more than 2", 1, names(3), api.ErrSize},
		{"MaxNames", 6, names(64), api.OK},
		{"more than MaxNames", 6, names(65), api.ErrSize},
		{"more than MaxNames of many bits", 40, names(65), api.ErrSize},
		{"MaxNames of many bits", 40, names(64), api.OK},
		{"size ahead of names", 1, []string{"", "", ""}, api.ErrSize},
		{"equal ones", 3, []string{"a", "b", "a"}, api.ErrTwice},
		{"equal ones ahead of a wrong one", 3, []string{"a", "a", ""}, api.ErrTwice},
		{"a wrong one ahead of equal ones", 3, []string{"a", "B", "a"}, api.ErrName},
		{"equal wrong ones", 3, []string{"B", "B"}, api.ErrName},
		{"the name of the parameter", 3, []string{"wide", "b"}, api.OK},
	} {
		p := wide(api.Code, c.bits)
		p.Names = c.names
		wantErrno(t, c.name, layout.CheckParam(p), c.want)
	}
}

// B1: each step puts the first error right and leaves later ones.
func TestParamErrorOrder(t *testing.T) {
	var p api.Param
	p.Names = []string{"X"}
	for _, step := range []struct {
		want api.Errno
		mend func()
	}{
		{api.ErrName, func() { p.Name = "a" }},
		{api.ErrKind, func() { p.Kind = api.Decimal }},
		{api.ErrEmpty, func() { p.Parts = make([]api.Part, 9) }},
		{api.ErrSize, func() { p.Parts = slices.Repeat([]api.Part{{Word: 4, Bits: 11}}, 8); p.Parts[7].Word = 3 }},
		{api.ErrRange, func() { p.Parts[7].Word = 4 }},
		{api.ErrSize, func() { p.Parts = []api.Part{{Word: 4, Bits: 7}, {Word: 4, Bits: 7}} }},
		{api.ErrRange, func() { p.Every, p.First, p.Times, p.Step = 16, 1, 2, 57 }},
		{api.ErrRange, func() { p.Step = 56 }},
		{api.ErrForm, func() { p.Kind = api.Unsigned }},
		{api.ErrForm, func() { p.Kind, p.Names = api.Code, nil }},
		{api.ErrEmpty, func() { p.Names = make([]string, 65) }},
		{api.ErrSize, func() { p.Names = []string{"X", "a", "a"} }},
		{api.ErrName, func() { p.Names = []string{"a", "a"} }},
		{api.ErrTwice, func() { p.Names = []string{"a", "b"} }},
		{api.ErrTwice, func() { p.Parts[0].Frame, p.Parts[1].Frame = 15, 15 }},
		{api.ErrEmpty, func() { p.Parts[0].Frame, p.Parts[1].Frame = 14, 13 }},
	} {
		wantErrno(t, "CheckParam", layout.CheckParam(p), step.want)
		step.mend()
	}
	wantErrno(t, "CheckParam", layout.CheckParam(p), api.OK)
}

// B1
func TestBitsInCommon(t *testing.T) {
	two := func(a, b api.Part, every, times, step int) api.Param {
		return api.Param{Name: "a", Kind: api.Unsigned, Parts: []api.Part{a, b}, Every: every, Times: times, Step: step}
	}
	for _, c := range []struct {
		name string
		p    api.Param
		want api.Errno
	}{
		{"side by side", two(api.Part{Word: 4, Bits: 5}, api.Part{Word: 4, Low: 5, Bits: 6}, 1, 1, 0), api.OK},
		{"one bit", two(api.Part{Word: 4, Bits: 6}, api.Part{Word: 4, Low: 5, Bits: 6}, 1, 1, 0), api.ErrTwice},
		{"one around the other", two(api.Part{Word: 4, Low: 5, Bits: 1}, api.Part{Word: 4, Bits: 11}, 1, 1, 0), api.ErrTwice},
		{"the next sample's frame", two(api.Part{Word: 4, Bits: 6}, api.Part{Frame: 2, Word: 4, Bits: 6}, 2, 1, 0), api.ErrTwice},
		{"between the samples' frames", two(api.Part{Word: 4, Bits: 6}, api.Part{Frame: 3, Word: 4, Bits: 6}, 2, 1, 0), api.OK},
		{"the frame of a sample that does not begin", two(api.Part{Word: 4, Bits: 6}, api.Part{Frame: 8, Word: 4, Bits: 6}, 8, 1, 0), api.OK},
		{"the next sample's word", two(api.Part{Word: 4, Bits: 6}, api.Part{Word: 6, Bits: 6}, 1, 2, 2), api.ErrTwice},
		{"between the samples' words", two(api.Part{Word: 4, Bits: 6}, api.Part{Word: 5, Bits: 6}, 1, 2, 2), api.OK},
		{"behind the samples' words", two(api.Part{Word: 4, Bits: 6}, api.Part{Word: 8, Bits: 6}, 1, 2, 2), api.OK},
		{"no sample that begins", two(api.Part{Frame: 15, Word: 4, Bits: 6}, api.Part{Frame: 15, Word: 4, Bits: 6}, 1, 1, 0), api.ErrTwice},
	} {
		wantErrno(t, c.name, layout.CheckParam(c.p), c.want)
	}
	none := two(api.Part{Frame: 15, Word: 4, Bits: 6}, api.Part{Frame: 15, Word: 4, Bits: 6}, 2, 1, 0)
	none.First = 1
	wantErrno(t, "none begins", layout.CheckParam(none), api.ErrEmpty)
}

// B1: what is found is what the bits of all samples show.
func TestBitsInCommonAsCounted(t *testing.T) {
	r := dice(1)
	var seen [16]int
	for range 60000 {
		p := some(r, "a", 6)
		e := layout.CheckParam(p)
		if e == api.ErrForm {
			continue
		}
		want := api.OK
		cells, twice := owners(mapOf(p))
		if twice {
			want = api.ErrTwice
		} else if len(cells) == 0 {
			want = api.ErrEmpty
		}
		if e != want {
			t.Fatalf("%v: error %d, want %d", p, e, want)
		}
		seen[e]++
	}
	if seen[api.OK] < 1000 || seen[api.ErrTwice] < 1000 || seen[api.ErrEmpty] < 100 {
		t.Errorf("too few of a kind: %v", seen)
	}
}

// B1: functions with parameters first return CheckParam's error.
func TestParamFunctionsCheck(t *testing.T) {
	p := speed()
	p.Step = 3
	n, e := layout.Bits(p)
	wantErrno(t, "Bits", e, api.ErrRange)
	low, high, e := layout.Range(p)
	wantErrno(t, "Range", e, api.ErrRange)
	raw, e := layout.Encode(p, 1)
	wantErrno(t, "Encode", e, api.ErrRange)
	v, good, e := layout.Decode(p, 1)
	wantErrno(t, "Decode", e, api.ErrRange)
	wantNothing(t, "with a wrong parameter", n, low, high, raw, v, good)
	p = speed()
	p.Kind = 0
	_, e = layout.Encode(p, -1)
	wantErrno(t, "Encode", e, api.ErrKind)
	_, _, e = layout.Decode(p, -1)
	wantErrno(t, "Decode", e, api.ErrKind)
}
