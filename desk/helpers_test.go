package desk_test

import (
	"fmt"
	"math"
	"math/rand/v2"
	"reflect"
	"strings"
	"testing"

	"orangebox/api"
	"orangebox/desk"
	"orangebox/event"
	"orangebox/frame"
	"orangebox/layout"
	"orangebox/ring"
)

// dice gives the same numbers in each run.
func dice(seed uint64) *rand.Rand {
	return rand.New(rand.NewPCG(seed, 10))
}

func pick[T any](r *rand.Rand, l ...T) T {
	return l[r.IntN(len(l))]
}

func many[T any](count int, f func(i int) T) []T {
	var l []T
	for i := range count {
		l = append(l, f(i))
	}
	return l
}

// beyond has numbers that are in no range of the document.
func beyond() []int {
	return []int{math.MinInt, math.MinInt + 1, -1<<62 - 1, -1<<50 - 1, 1<<50 + 1, 1<<62 + 1, math.MaxInt - 1, math.MaxInt}
}

// wrongNames has texts that are no names, but for those with blanks and line ends.
func wrongNames() []string {
	return []string{strings.Repeat("a", 31), "A", "aB", "1a", "-a", "a_b", "a\x00", "a\r", "\u00e4", "\xff", "rule", "if", "since"}
}

func wantErrno(t *testing.T, name string, got, want api.Errno) {
	t.Helper()
	if got != want {
		t.Errorf("%s: error %d, want %d", name, got, want)
	}
}

// wantSame takes an empty list for nil, in other values too.
func wantSame(t *testing.T, name string, got, want any) {
	t.Helper()
	if reflect.TypeOf(got) != reflect.TypeOf(want) || fmt.Sprintf("%+v", got) != fmt.Sprintf("%+v", want) {
		t.Errorf("%s: got %+v, want %+v", name, got, want)
	}
}

// wantText is wantSame for long texts.
func wantText(t *testing.T, name, got, want string) {
	t.Helper()
	if got != want {
		t.Errorf("%s: got\n%q, want\n%q", name, got, want)
	}
}

// wantNothing wants zero values, or empty lists.
func wantNothing(t *testing.T, name string, results ...any) {
	t.Helper()
	for _, r := range results {
		v := reflect.ValueOf(r)
		if !v.IsZero() && (v.Kind() != reflect.Slice || v.Len() > 0) {
			t.Errorf("%s: got %v, want nothing", name, r)
		}
	}
}

// results makes a list of what a function returns.
func results(l ...any) []any {
	return l
}

// wantWrong wants an error behind results that are nothing.
func wantWrong(t *testing.T, name string, l []any, want api.Errno) {
	t.Helper()
	last := len(l) - 1
	wantErrno(t, name, l[last].(api.Errno), want)
	wantNothing(t, name, l[:last]...)
}

// fault makes something wrong with an argument.
type fault[T any] struct {
	name string
	make func(*T)
	want api.Errno
}

// wantInOrder wants the error of each fault, whichever of the later ones are made as well.
func wantInOrder[T any](t *testing.T, name string, base func() T, call func(T) []any, faults []fault[T]) {
	t.Helper()
	l := call(base())
	wantErrno(t, name, l[len(l)-1].(api.Errno), api.OK)
	for i, first := range faults {
		x := base()
		first.make(&x)
		wantWrong(t, name+": "+first.name, call(x), first.want)
		for _, later := range faults[i+1:] {
			x := base()
			later.make(&x)
			first.make(&x)
			wantWrong(t, name+": "+first.name+", then "+later.name, call(x), first.want)
		}
	}
}

// Cases.

const (
	mapText     = "map 7\nparam speed unsigned first 0 every 1\npart 0 4 0 11\nparam load decimal first 1 every 2\npart 0 5 0 8\nparam flap code first 0 every 16\npart 3 6 0 2\nname up\nname down\nname moving\n"
	sourcesText = "alt speed 63\nspeed speed 100 10 0 400 0 100 5 -20\ng load 127\nflaps flap 1023\n"
	rulesText   = "rule high if alt > 10\nrule fast if for 2 speed > 5\nrule never if g > 99\n"
)

func mapOf(t *testing.T, text string) api.Map {
	t.Helper()
	m, _, e := layout.Read(text)
	if e != api.OK {
		t.Fatalf("layout.Read of %q: error %d", text, e)
	}
	return m
}

func sourcesOf(t *testing.T, text string) []api.Source {
	t.Helper()
	l, _, e := desk.ReadSources(text)
	if e != api.OK {
		t.Fatalf("ReadSources of %q: error %d", text, e)
	}
	return l
}

func ruled(t *testing.T, text string) api.Rules {
	t.Helper()
	r, _, e := event.Read(text)
	if e != api.OK {
		t.Fatalf("event.Read of %q: error %d", text, e)
	}
	return r
}

// someCase is a case without errors.
func someCase(t *testing.T) api.Case {
	t.Helper()
	return api.Case{
		Map: mapOf(t, mapText), Sources: sourcesOf(t, sourcesText), Rules: ruled(t, rulesText),
		Twins: []api.Twins{{A: "alt", B: "speed", Most: 4}, {A: "speed", B: "g", Most: 90}},
	}
}

// superValues are values of a superframe of someCase: speed from a number on, load as that, and where flaps are.
func superValues(from, flaps int) []int {
	l := many(16, func(i int) int { return from + i })
	l = append(l, many(8, func(i int) int { return (from + i) % 100 })...)
	return append(l, flaps)
}

func recorded(t *testing.T, c api.Case, first int, l ...[]int) []api.Frame {
	t.Helper()
	frames, e := desk.Record(c, first, l)
	wantErrno(t, "Record", e, api.OK)
	return frames
}

func memory(t *testing.T, sectors, slots int) api.Memory {
	t.Helper()
	m, e := ring.NewMemory(sectors, slots, 1000)
	wantErrno(t, "NewMemory", e, api.OK)
	return m
}

func stored(t *testing.T, l []api.Frame, copies int, m ...api.Memory) []api.Memory {
	t.Helper()
	m, written, _, e := desk.Store(l, m, copies, ring.MaxPower)
	wantErrno(t, "Store", e, api.OK)
	wantSame(t, "frames written", written, len(l))
	return m
}

func crashed(t *testing.T, m []api.Memory, cuts, lost []int, flips ...api.Flip) []api.Piece {
	t.Helper()
	l, e := desk.Crash(m, cuts, lost, flips)
	wantErrno(t, "Crash", e, api.OK)
	return l
}

func readOf(t *testing.T, c api.Case, l []api.Piece) api.Book {
	t.Helper()
	b, e := desk.Read(c, l)
	wantErrno(t, "Read", e, api.OK)
	return b
}

// bookOf is the book of a case of which all superframes of some values are there, and nothing else.
func bookOf(t *testing.T, c api.Case, first int, l ...[]int) api.Book {
	t.Helper()
	var p api.Piece
	for _, f := range recorded(t, c, first, l...) {
		b, e := frame.ToBytes(f)
		wantErrno(t, "ToBytes", e, api.OK)
		p.Bytes = append(p.Bytes, b...)
	}
	return readOf(t, c, []api.Piece{p})
}
