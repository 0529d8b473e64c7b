package finding_test

import (
	"math"
	"math/rand/v2"
	"reflect"
	"slices"
	"strconv"
	"strings"
	"testing"

	"orangebox/api"
	"orangebox/event"
	"orangebox/finding"
	"orangebox/frame"
)

// dice gives the same numbers in each run.
func dice(seed uint64) *rand.Rand {
	return rand.New(rand.NewPCG(seed, 7))
}

func pick[T any](r *rand.Rand, l ...T) T {
	return l[r.IntN(len(l))]
}

// beyond has numbers that are in no range of the document.
func beyond() []int {
	return []int{math.MinInt, math.MinInt + 1, -1<<62 - 1, -1<<50 - 1, 1<<50 + 1, 1<<62 + 1, math.MaxInt - 1, math.MaxInt}
}

// wrongNames has texts that are no names.
func wrongNames() []string {
	return []string{"", strings.Repeat("a", 31), "A", "1", "-a", "a b", "a_b", "a\n", "rule", "since", "of"}
}

func wantErrno(t *testing.T, name string, got, want api.Errno) {
	t.Helper()
	if got != want {
		t.Errorf("%s: error %d, want %d", name, got, want)
	}
}

// wantSame takes an empty list for nil.
func wantSame(t *testing.T, name string, got, want any) {
	t.Helper()
	g, w := reflect.ValueOf(got), reflect.ValueOf(want)
	if g.Kind() == reflect.Slice && w.Kind() == reflect.Slice && g.Len() == 0 && w.Len() == 0 {
		return
	}
	if !reflect.DeepEqual(got, want) {
		t.Errorf("%s: got %v, want %v", name, got, want)
	}
}

// wantNothing wants zero values, or empty lists.
func wantNothing(t *testing.T, name string, results ...any) {
	t.Helper()
	for _, r := range results {
		v := reflect.ValueOf(r)
		if !v.IsZero() && (v.Kind() != reflect.Slice || v.Len() > 0) {
			t.Errorf("%s: got %v, want nothing", name, r)
		}
	}
}

// results makes a list of what a function returns.
func results(l ...any) []any {
	return l
}

// wantWrong wants an error behind results that are nothing.
func wantWrong(t *testing.T, name string, l []any, want api.Errno) {
	t.Helper()
	last := len(l) - 1
	wantErrno(t, name, l[last].(api.Errno), want)
	wantNothing(t, name, l[:last]...)
}

// Books.

// param is a parameter of 11 bits, with a sample in each frame.
func param(name string, word int) api.Param {
	return api.Param{Name: name, Kind: api.Unsigned, Parts: []api.Part{{Word: word, Bits: 11}}, Every: 1, Times: 1}
}

func source(track, param string, long int) api.Source {
	return api.Source{Track: track, Param: param, Long: long}
}

// line is a calibration of one line.
func line(den, from, to, a, b int) api.Calibration {
	return api.Calibration{Den: den, Lines: []api.Line{{From: from, To: to, A: a, B: b}}, Low: -1 << 40, High: 1 << 40}
}

// holding is the frame with a number, and the version 7, with data in the words from 4 on.
func holding(t *testing.T, number int, data ...int) api.Frame {
	t.Helper()
	all := make([]int, 58)
	all[0] = 7
	copy(all[1:], data)
	f, e := frame.New(number, all)
	wantErrno(t, "frame.New", e, api.OK)
	return f
}

// sound is what is left of a frame of which all is known.
func sound(f api.Frame) api.Rest {
	number, _ := frame.Number(f)
	r := api.Rest{Number: number, Frame: f, Sound: true, Copies: 1}
	for i := range r.States {
		r.States[i] = api.WordGood
	}
	return r
}

// mended is a rest of which some words were mended.
func mended(r api.Rest, words ...int) api.Rest {
	for _, i := range words {
		r.States[i] = api.WordMended
	}
	return r
}

// doubtful is a rest that is not sound, and has lost some words.
func doubtful(r api.Rest, lost ...int) api.Rest {
	r.Sound, r.Copies = false, 0
	for i := range r.States {
		r.States[i] = api.WordDoubtful
	}
	for _, i := range lost {
		r.Frame[i], r.States[i] = 0, api.WordLost
	}
	return r
}

// climb is a book of so many frames, from one on, in which the track alt is the number of the frame, and low is 100 less this number.
func climb(t *testing.T, first, frames int) api.Book {
	t.Helper()
	b := api.Book{
		Map:     api.Map{Version: 7, Params: []api.Param{param("a", 4), param("b", 5)}},
		Sources: []api.Source{source("alt", "a", 63), source("low", "b", 63)},
	}
	for i := first; i < first+frames; i++ {
		b.Rests = append(b.Rests, sound(holding(t, i, i, max(0, 100-i))))
	}
	return b
}

// slow is a book of so many superframes, whose track alt has one sample of 5 in each of them, and is held for Long.
func slow(t *testing.T, supers, long int) api.Book {
	t.Helper()
	b := api.Book{
		Map:     api.Map{Version: 7, Params: []api.Param{param("a", 4)}},
		Sources: []api.Source{source("alt", "a", long)},
	}
	b.Map.Params[0].Every = 16
	for i := range supers {
		b.Rests = append(b.Rests, sound(holding(t, 16*i, 5)))
	}
	return b
}

// without is a book that lacks the rests of some numbers.
func without(b api.Book, numbers ...int) api.Book {
	b.Rests = slices.DeleteFunc(slices.Clone(b.Rests), func(r api.Rest) bool { return slices.Contains(numbers, r.Number) })
	return b
}

// wordsOf returns the same words of some frames.
func wordsOf(from, to int, words ...int) []api.Where {
	var l []api.Where
	for i := from; i <= to; i++ {
		for _, w := range words {
			l = append(l, api.Where{Number: i, Word: w})
		}
	}
	return l
}

// wrongBook is a book with an error that is asked for first.
func wrongBook() api.Book {
	return api.Book{Map: api.Map{Version: -1}}
}

func ruledBy(t *testing.T, s string) api.Rules {
	t.Helper()
	r, at, e := event.Read(s)
	if e != api.OK {
		t.Fatalf("event.Read of %q: error %d at %d", s, e, at)
	}
	return r
}

// wrongRules has rules with an error.
func wrongRules() api.Rules {
	return api.Rules{Phases: []string{"A"}}
}

// circular has a condition with itself as a kid.
func circular() api.Rules {
	c := api.Cond{Kind: api.CondAnd, Kids: make([]api.Cond, 2)}
	c.Kids[0], c.Kids[1] = c, c
	return api.Rules{Rules: []api.Rule{{Name: "r", When: c}}}
}

// Tracks.

func good(at, n int) api.Sample { return api.Sample{At: at, N: n, Mark: api.MarkGood} }
func lost(at int) api.Sample    { return api.Sample{At: at} }

func track(name string, den, long int, l ...api.Sample) api.Track {
	return api.Track{Name: name, Series: api.Series{Den: den, Samples: l}, Long: long}
}

// unknown is what a track is that is not known; it is no number of any test.
const unknown = math.MinInt

// framed is a track that has these numbers in the frames from one on.
func framed(name string, den, first int, numbers ...int) api.Track {
	t := track(name, den, api.Ticks-1)
	for i, n := range numbers {
		x := lost(api.Ticks * (first + i))
		if n != unknown {
			x = good(x.At, n)
		}
		t.Series.Samples = append(t.Series.Samples, x)
	}
	return t
}

func many[T any](count int, f func(i int) T) []T {
	var l []T
	for i := range count {
		l = append(l, f(i))
	}
	return l
}

func numbered(name string, i int) string {
	return name + strconv.Itoa(i)
}

// Functions without errors.

func tracksOf(t *testing.T, b api.Book) []api.Track {
	t.Helper()
	l, e := finding.Tracks(b)
	wantErrno(t, "Tracks", e, api.OK)
	return l
}

func onlyOf(t *testing.T, b api.Book, l ...api.Where) []api.Track {
	t.Helper()
	tracks, e := finding.Only(b, l)
	wantErrno(t, "Only", e, api.OK)
	return tracks
}

func wordsFor(t *testing.T, b api.Book, from, to int, names ...string) []api.Where {
	t.Helper()
	l, e := finding.Words(b, names, from, to)
	wantErrno(t, "Words", e, api.OK)
	return l
}

func solidOf(t *testing.T, b api.Book, l ...api.Where) []bool {
	t.Helper()
	solid, e := finding.Solid(b, l)
	wantErrno(t, "Solid", e, api.OK)
	return solid
}

func truthOf(t *testing.T, b api.Book, r api.Rules, rule string, first, number int) int {
	t.Helper()
	truth, e := finding.Truth(b, r, rule, first, number)
	wantErrno(t, "Truth", e, api.OK)
	return truth
}

func evidenceOf(t *testing.T, b api.Book, r api.Rules, rule string, first, number int) api.Finding {
	t.Helper()
	f, e := finding.Evidence(b, r, rule, first, number)
	wantErrno(t, "Evidence", e, api.OK)
	return f
}

func faultsOf(t *testing.T, b api.Book, r api.Rules, f api.Finding) []int {
	t.Helper()
	l, e := finding.CheckFinding(b, r, f)
	wantErrno(t, "CheckFinding", e, api.OK)
	return l
}

func missingOf(t *testing.T, b api.Book, r api.Rules, rule string, first, number int) []api.Where {
	t.Helper()
	l, e := finding.Missing(b, r, rule, first, number)
	wantErrno(t, "Missing", e, api.OK)
	return l
}
