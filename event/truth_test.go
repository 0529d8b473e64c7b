package event_test

import (
	"fmt"
	"slices"
	"strings"
	"testing"

	"orangebox/api"
	"orangebox/event"
	"orangebox/series"
)

// spelt writes truths as letters: u, F and T.
func spelt(truths []int) string {
	var out strings.Builder
	for _, truth := range truths {
		out.WriteByte("uFT"[truth])
	}
	return out.String()
}

// row reads numbers of a track from letters: digits are themselves, and ? is not known.
func row(s string) []int {
	l := make([]int, len(s))
	for i := range s {
		l[i] = int(s[i] - '0')
		if s[i] == '?' {
			l[i] = unknown
		}
	}
	return l
}

// F1: each kind of condition, with x that is known and not known.
func TestTruths(t *testing.T) {
	for _, c := range []struct{ cond, x, want string }{
		{"true", "0?1", "TTT"},
		{"false", "0?1", "FFF"},
		{"x < 3", "234?0", "TFFuT"},
		{"x <= 3", "234?0", "TTFuT"},
		{"x = 3", "234?0", "FTFuF"},
		{"x != 3", "234?0", "TFTuT"},
		{"x >= 3", "234?0", "FTTuF"},
		{"x > 3", "234?0", "FFTuF"},
		{"x = x", "2?0", "TuT"},
		{"x != x or x < x or x > x", "2?0", "FuF"},
		{"x <= x and x >= x", "2?0", "TuT"},
		{"not x > 3", "24?", "TFu"},
		{"not true", "0", "F"},
		{"x > 3 and x < 7", "357?", "FTFu"},
		{"x > 3 and true and x < 7", "357?", "FTFu"},
		{"x > 3 and false", "5?1", "FFF"},
		{"x < 3 or x > 7", "258?", "TFTu"},
		{"x < 3 or true", "25?", "TTT"},
		{"x < 3 or false or x = 5", "257?", "TTFu"},
		{"steady x 0 1", "12?3", "TTuT"},
		{"steady x 2 2", "113?1146", "uTTuuTFT"},
		{"steady x 2 3", "1135?559", "uuTFuuuF"},
		{"steady x 2 3", "13?24", "uuuuu"},
		{"steady x 2 3", "13?45", "uuuuu"},
		{"steady x 1 3", "1?3?5", "uuFuF"},
		{"steady x 1 3", "3?1?0", "uuFuu"},
		{"steady x 2 4", "13243546", "uuuFTFTF"},
		{"steady x 3 4", "13243546", "uuuTTTTT"},
		{"steady x 0 2", "77?77", "uTuuT"},
		{"for 1 x > 3", "5?1", "TuF"},
		{"for 3 x > 3", "555?555155", "uuTuuuTFFF"},
		{"for 3 true", "0000", "uuTT"},
		{"for 2 false", "00", "FF"},
		{"within 1 x > 3", "5?1", "TuF"},
		{"within 3 x > 3", "111?1115111", "uuFuuuFTTTF"},
		{"within 3 false", "0000", "uuFF"},
		{"within 3 true", "00", "TT"},
		{"count 1 of 1 x > 3", "5?1", "TuF"},
		{"count 2 of 3 x > 3", "5515?1?511", "uTTTuuuuuF"},
		{"count 2 of 3 x > 3", "111", "uFF"},
		{"count 1 of 3 x > 3", "115111", "uuTTTF"},
		{"count 3 of 3 x > 3", "55515", "uuTFF"},
		{"count 2 of 2 false", "0", "F"},
		{"count 2 of 4 x > 3", "1?5?51?1?", "uuuuTTuuu"},
		{"since x > 3 x > 7", "5859?9?5155", "uTTTuTuuFFF"},
		{"since x > 3 x > 7", "0585?", "FFTTu"},
		{"since x > 3 true", "0?5", "TTT"},
		{"since true x > 7", "1181", "uuTT"},
		{"since false x > 7", "1?81", "FuTF"},
		{"rises x > 3", "515?515?1?5", "uFTFuFTFFuu"},
		{"rises true", "00", "uF"},
		{"rises false", "00", "FF"},
		{"rises x > 3", "?5?155", "uuFFTF"},
		{"not since x > 3 x > 7", "0585?", "TTFFu"},
		{"not rises x > 3", "155", "TFT"},
		{"for 2 within 2 x > 3", "15111", "uuTFF"},
		{"within 2 for 2 x > 3", "5551155", "uTTTFFT"},
		{"rises for 2 x > 3", "1555", "FFTF"},
		{"since rises x > 3 x = 9", "9151", "TFFF"},
		{"since not rises x > 3 x = 9", "9155", "TTFF"},
	} {
		r, l := ruledBy(t, "rule r if "+c.cond), []api.Track{framed("x", 1, 3, row(c.x)...)}
		wantSame(t, c.cond+" of "+c.x, spelt(truthsOf(t, r, l, 3, 2+len(c.x))[0]), c.want)
	}
}

// F1: tracks compare as N / Den does, beyond an int too.
func TestCompareTracks(t *testing.T) {
	const m, d = series.MaxN, series.MaxDen
	for _, c := range []struct{ n, den, other, otherDen, order int }{
		{1, 2, 2, 4, 0}, {1, 2, 3, 5, -1}, {2, 3, 3, 5, 1}, {0, 7, 0, 9, 0}, {-1, 2, 1, 2, -1}, {1, 2, -1, 2, 1}, {-1, 2, -2, 4, 0}, {-1, 2, -3, 5, 1}, {-2, 3, -3, 5, -1},
		{-1, 3, 0, 5, -1}, {0, 3, -1, 5, 1}, {5, 3, 1, 1, 1}, {-5, 3, -1, 1, -1}, {-5, 3, -2, 1, 1}, {7, 1, 14, 2, 0},
		{m, 1, m, d, 1}, {m, d, m, 1, -1}, {-m, 1, -m, d, -1}, {m, d, m, d - 1, -1}, {-m, d, -m, d - 1, 1}, {m, d, m - 1, d, 1}, {m, 1, m, 1, 0}, {-m, 1, m, 1, -1},
		{1 << 44, 2, 1 << 49, 64, 0}, {1<<44 + 1, 2, 1 << 49, 64, 1}, {m - 1, d, m - 1, d, 0}, {m, 999999, m, d, 1},
		{999999, d, 999998, 999999, 1}, {-999999, d, -999998, 999999, -1},
	} {
		l := []api.Track{framed("x", c.den, 0, c.n), framed("y", c.otherDen, 0, c.other)}
		for op, sign := range map[int]string{api.Less: "<", api.AtMost: "<=", api.Equal: "=", api.Differs: "!=", api.AtLeast: ">=", api.Greater: ">"} {
			want := certain(compares(op, c.order, 0), !compares(op, c.order, 0))
			back := certain(compares(op, 0, c.order), !compares(op, 0, c.order))
			r := api.Rules{Rules: []api.Rule{{Name: "a", When: tracksAre("x", op, "y")}, {Name: "b", When: tracksAre("y", op, "x")}}}
			wantSame(t, fmt.Sprint(c, sign), truthsOf(t, r, l, 0, 0), [][]int{{want}, {back}})
		}
	}
	r := ruledBy(t, "rule a if x < y rule b if y != x rule c if x = x")
	l := []api.Track{framed("x", 1, 0, 1, unknown, unknown, 1), framed("y", 1, 0, unknown, 1, unknown, 2)}
	wantSame(t, "not known", truthsOf(t, r, l, 0, 3), [][]int{{0, 0, 0, 2}, {0, 0, 0, 2}, {2, 0, 0, 2}})
}

// F1: the numbers of a track are parts of its Den, also where it is compared with a number.
func TestParts(t *testing.T) {
	r := ruledBy(t, "rule a if x > 5 rule b if steady x 1 2")
	wantSame(t, "parts", truthsOf(t, r, []api.Track{framed("x", 1000, 0, 6, 8)}, 0, 1), [][]int{{2, 2}, {0, 1}})
	r = ruledBy(t, "rule a if x > -1125899906842624 rule b if x <= 1125899906842624 rule c if steady x 1125899906842624 2")
	l := []api.Track{framed("x", 1, 0, -series.MaxN, series.MaxN, 0)}
	wantSame(t, "the greatest numbers", truthsOf(t, r, l, 0, 2), [][]int{{1, 2, 2}, {2, 2, 2}, {0, 1, 2}})
}

// F1, F3, F4: held against the table of the document, for conditions of all kinds.
func TestPlain(t *testing.T) {
	r := dice(2)
	for range 3000 {
		rules := someRules(r, 4, 4)
		first := pick(r, 0, 1, 1000, api.Number-12)
		tracks := someTracks(r, first, 12)
		tracks[0].Long, tracks[1].Long, tracks[2].Long = r.IntN(200), r.IntN(200), r.IntN(200)
		from := first + r.IntN(4)
		to := from + r.IntN(first+12-from)
		wantErrno(t, "Check", event.Check(rules), api.OK)
		truths, phases := plainOf(rules, tracks, from).evaluate(to)
		name := fmt.Sprint(rules, tracks, from, to)
		wantSame(t, "Evaluate "+name, truthsOf(t, rules, tracks, from, to), truths)
		wantPhases(t, "Phases "+name, phasesOf(t, rules, tracks, from, to), phases)
		wantSame(t, "Events "+name, eventsOf(t, rules, tracks, from, to), plainEvents(truths, from))
	}
}

// F1: long looks back, over many frames.
func TestPlainLong(t *testing.T) {
	r := dice(3)
	for range 40 {
		rules := someRules(r, 3, 60)
		tracks := someTracks(r, 0, 150)
		for i := range tracks {
			tracks[i].Series.Samples = slices.DeleteFunc(tracks[i].Series.Samples, func(x api.Sample) bool { return r.IntN(3) > 0 })
			tracks[i].Long = 1000
		}
		truths, phases := plainOf(rules, tracks, 0).evaluate(149)
		wantSame(t, fmt.Sprint("Evaluate ", rules), truthsOf(t, rules, tracks, 0, 149), truths)
		wantPhases(t, fmt.Sprint("Phases ", rules), phasesOf(t, rules, tracks, 0, 149), phases)
	}
}

// F1: what is true or false stays so, whatever else becomes known.
func TestTruthsStay(t *testing.T) {
	r := dice(4)
	for range 500 {
		rules := someRules(r, 4, 4)
		l := [][]int{someNumbers(r, 12, 3), someNumbers(r, 12, 5), someNumbers(r, 12, 3)}
		more := [][]int{slices.Clone(l[0]), slices.Clone(l[1]), slices.Clone(l[2])}
		for _, numbers := range more {
			for i, n := range numbers {
				if n == unknown && r.IntN(2) == 0 {
					numbers[i] = r.IntN(9) - 4
				}
			}
		}
		find := func(l [][]int) ([][]int, [][]string) {
			tracks := []api.Track{framed("a", 1, 0, l[0]...), framed("b", 2, 0, l[1]...), framed("c", 3, 0, l[2]...)}
			return truthsOf(t, rules, tracks, 0, 11), phasesOf(t, rules, tracks, 0, 11)
		}
		truths, phases := find(l)
		known, fewer := find(more)
		for i := range truths {
			for f, truth := range truths[i] {
				if truth != api.Unknown && known[i][f] != truth {
					t.Errorf("%v in frame %d: %d becomes %d", rules.Rules[i], f, truth, known[i][f])
				}
			}
		}
		for f := range phases {
			for _, phase := range fewer[f] {
				if !slices.Contains(phases[f], phase) {
					t.Errorf("%v in frame %d: %v becomes %v", rules, f, phases[f], fewer[f])
				}
			}
		}
	}
}

// F1, F3: as much as there can be, in a short time.
func TestLongest(t *testing.T) {
	numbers := make([]int, event.MaxSpan)
	for i := range numbers {
		numbers[i] = i
	}
	l := []api.Track{framed("x", 1, 7, numbers...)}
	r := ruledBy(t, "rule a if steady x 4095 4096 rule b if steady x 4094 4096 rule c if for 4096 x >= 10000 rule d if within 4096 x < 10 rule e if count 4000 of 4096 x < 15000")
	last := 7 + event.MaxSpan - 1
	wantSame(t, "long looks", eventsOf(t, r, l, 7, last), []api.Event{
		{Rule: 0, From: 7 + 4095, To: last},
		{Rule: 2, From: 7 + 10000 + 4095, To: last, Begins: true},
		{Rule: 3, From: 7, To: 7 + 9 + 4095, Ends: true},
		{Rule: 4, From: 7 + 3999, To: 7 + 15000 + 95, Ends: true},
	})
	truths := truthsOf(t, r, l, 7, last)
	wantSame(t, "falses", []int{times(truths[0], api.False), slices.Index(truths[1], api.False), times(truths[1], api.False)}, []int{0, 4095, event.MaxSpan - 4095})
	most := api.Rules{}
	for _, name := range numbered("r", event.MaxRules) {
		var kids []api.Cond
		for range event.MaxNodes/2 - 1 {
			kids = append(kids, inAll(event.MaxFrames, over()))
		}
		most.Rules = append(most.Rules, api.Rule{Name: name, When: either(kids...)})
	}
	truths = truthsOf(t, most, l, 7, 7+4999)
	wantSame(t, "of the last rule", eventsOf(t, most, l, 7, 7+4999)[event.MaxRules-1], api.Event{Rule: event.MaxRules - 1, From: 7 + 4096, To: 7 + 4999, Begins: true})
	wantSame(t, "rules", len(truths), event.MaxRules)
}
