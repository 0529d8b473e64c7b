package fleet_test

import (
	"fmt"
	"math"
	"math/rand/v2"
	"reflect"
	"strconv"
	"strings"
	"testing"

	"orangebox/api"
	"orangebox/event"
)

// dice gives the same numbers in each run.
func dice(seed uint64) *rand.Rand {
	return rand.New(rand.NewPCG(seed, 9))
}

func pick[T any](r *rand.Rand, l ...T) T {
	return l[r.IntN(len(l))]
}

func many[T any](count int, f func(i int) T) []T {
	var l []T
	for i := range count {
		l = append(l, f(i))
	}
	return l
}

// most is the greatest number that a sample can have.
const most = 1 << 50

// beyond has numbers that are in no range of the document.
func beyond() []int {
	return []int{math.MinInt, math.MinInt + 1, -1<<62 - 1, -most - 1, most + 1, 1<<62 + 1, math.MaxInt - 1, math.MaxInt}
}

// wrongNames has texts that are no names, but for the empty one.
func wrongNames() []string {
	return []string{strings.Repeat("a", 31), "A", "aB", "1a", "-a", "a b", " a", "a ", "a_b", "a\x00", "a\n", "\u00e4", "\xff", "rule", "if", "or"}
}

func wantErrno(t *testing.T, name string, got, want api.Errno) {
	t.Helper()
	if got != want {
		t.Errorf("%s: error %d, want %d", name, got, want)
	}
}

// wantSame takes an empty list for nil, in other values too.
func wantSame(t *testing.T, name string, got, want any) {
	t.Helper()
	if reflect.TypeOf(got) != reflect.TypeOf(want) || fmt.Sprintf("%+v", got) != fmt.Sprintf("%+v", want) {
		t.Errorf("%s: got %+v, want %+v", name, got, want)
	}
}

// wantNothing wants zero values, or empty lists.
func wantNothing(t *testing.T, name string, results ...any) {
	t.Helper()
	for _, r := range results {
		v := reflect.ValueOf(r)
		if !v.IsZero() && (v.Kind() != reflect.Slice || v.Len() > 0) {
			t.Errorf("%s: got %v, want nothing", name, r)
		}
	}
}

// results makes a list of what a function returns.
func results(l ...any) []any {
	return l
}

// wantWrong wants an error behind results that are nothing.
func wantWrong(t *testing.T, name string, l []any, want api.Errno) {
	t.Helper()
	last := len(l) - 1
	wantErrno(t, name, l[last].(api.Errno), want)
	wantNothing(t, name, l[:last]...)
}

// fault makes something wrong with an argument.
type fault[T any] struct {
	name string
	make func(*T)
	want api.Errno
}

// wantInOrder wants the error of each fault, whichever of the later ones are made as well.
func wantInOrder[T any](t *testing.T, name string, base func() T, call func(T) []any, faults []fault[T]) {
	t.Helper()
	l := call(base())
	wantErrno(t, name, l[len(l)-1].(api.Errno), api.OK)
	for i, first := range faults {
		x := base()
		first.make(&x)
		wantWrong(t, name+": "+first.name, call(x), first.want)
		for _, later := range faults[i+1:] {
			x := base()
			later.make(&x)
			first.make(&x)
			wantWrong(t, name+": "+first.name+", then "+later.name, call(x), first.want)
		}
	}
}

// Tracks.

func good(at, n int) api.Sample     { return api.Sample{At: at, N: n, Mark: api.MarkGood} }
func mended(at, n int) api.Sample   { return api.Sample{At: at, N: n, Mark: api.MarkMended} }
func doubtful(at, n int) api.Sample { return api.Sample{At: at, N: n, Mark: api.MarkDoubtful} }
func wrong(at int) api.Sample       { return api.Sample{At: at, Mark: api.MarkWrong} }
func lost(at int) api.Sample        { return api.Sample{At: at} }

func track(name string, den, long int, l ...api.Sample) api.Track {
	return api.Track{Name: name, Series: api.Series{Den: den, Samples: l}, Long: long}
}

// framed is a track that has these numbers in the frames from 0 on.
func framed(name string, numbers ...int) api.Track {
	t := track(name, 1, api.Ticks-1)
	for i, n := range numbers {
		t.Series.Samples = append(t.Series.Samples, good(api.Ticks*i, n))
	}
	return t
}

// named has so many tracks.
func named(count int) []api.Track {
	return many(count, func(i int) api.Track { return framed("t"+strconv.Itoa(i), i) })
}

// Flights.

func flight(tail, route string, day int, tracks ...api.Track) api.Flight {
	return api.Flight{Tail: tail, Route: route, Day: day, Tracks: tracks}
}

// flown is a flight with one track, named a, with numbers from the frame 0 on.
func flown(day int, numbers ...int) api.Flight {
	f := flight("t", "r", day, framed("a", numbers...))
	f.To = max(len(numbers)-1, 0)
	return f
}

// wrongFlight has an error of CheckFlight that is ErrOrder.
func wrongFlight() api.Flight {
	return flight("t", "r", 0, track("a", 1, 0, good(5, 1), good(5, 1)))
}

// open is a mask that hides nothing.
func open() api.Mask {
	return api.Mask{Days: 1, Least: 1}
}

// least is a mask that hides what fewer flights tell.
func least(n int) api.Mask {
	return api.Mask{Days: 1, Least: n}
}

func ruled(t *testing.T, text string) api.Rules {
	t.Helper()
	r, _, e := event.Read(text)
	if e != api.OK {
		t.Fatalf("Read of %.200q: error %d", text, e)
	}
	return r
}

// wrongRules has an error of event.Check that is ErrTwice.
func wrongRules() api.Rules {
	return api.Rules{Phases: []string{"p", "p"}}
}
