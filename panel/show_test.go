package panel_test

import (
	"fmt"
	"math/big"
	"strings"
	"testing"

	"orangebox/api"
	"orangebox/panel"
	"orangebox/series"
)

func wantValue(t *testing.T, x api.Track, frame int, want api.Sample, ok bool) {
	t.Helper()
	s, known, e := panel.Value(x, frame)
	wantErrno(t, "Value", e, api.OK)
	wantSame(t, fmt.Sprint("Value in ", frame, " of ", x), []any{s, known}, []any{want, ok})
}

// H2: what is held at the last tick of a frame.
func TestValue(t *testing.T) {
	x := track("a", 3, 100, good(0, 5), mended(127, 6), doubtful(128, 7), good(255, 8), good(256, 9), wrong(512), lost(640), good(641, -1))
	for frame, want := range map[int]api.Sample{0: good(0, 5), 1: mended(127, 6), 3: good(255, 8), 4: good(256, 9), 10: good(641, -1)} {
		wantValue(t, x, frame, want, true)
	}
	for _, frame := range []int{2, 5, 7, 8, 9, 11, 12, api.Number - 1} {
		wantValue(t, x, frame, api.Sample{}, false)
	}
	wantValue(t, track("a", 1, 63, good(64, 5)), 1, good(64, 5), true)
	wantValue(t, track("a", 1, 62, good(64, 5)), 1, api.Sample{}, false)
	wantValue(t, track("a", 1, 127, good(64, 5)), 2, good(64, 5), true)
	wantValue(t, track("a", 1, 126, good(64, 5)), 2, api.Sample{}, false)
	wantValue(t, track("a", 1, 500, good(64, 5)), 0, api.Sample{}, false)
	wantValue(t, track("a", 1, 0, good(63, 5), good(64, 6)), 0, good(63, 5), true)
	wantValue(t, track("a", 1, series.MaxAt, good(0, 5)), api.Number-1, good(0, 5), true)
	wantValue(t, track("a", 1, 0, good(64*api.Number-1, 5)), api.Number-1, good(64*api.Number-1, 5), true)
	wantValue(t, track("a", 1, 9), 0, api.Sample{}, false)
}

// H2
func TestValueErrors(t *testing.T) {
	for name, c := range map[string]struct {
		x    api.Track
		want api.Errno
	}{
		"a name":    {track("if", 0, -1), api.ErrName},
		"a series":  {track("a", 0, -1), api.ErrRange},
		"an order":  {track("a", 1, -1, good(5, 1), good(5, 1)), api.ErrOrder},
		"Long":      {track("a", 1, -1), api.ErrRange},
		"long Long": {track("a", 1, series.MaxAt+1), api.ErrRange},
	} {
		wantWrong(t, name, results(panel.Value(c.x, -1)), c.want)
	}
	for _, frame := range append(beyond(), -1, api.Number) {
		wantWrong(t, fmt.Sprint("frame ", frame), results(panel.Value(framed("a", 1, 5), frame)), api.ErrRange)
	}
}

func wantNeedle(t *testing.T, i api.Instrument, n, want int) {
	t.Helper()
	got, e := panel.Needle(i, n)
	wantErrno(t, "Needle", e, api.OK)
	wantSame(t, fmt.Sprint("Needle of ", i, " at ", n), got, want)
}

// H2
func TestNeedle(t *testing.T) {
	i := dial("d", -10, 20, 4)
	for n, want := range map[int]int{-most: 0, -11: 0, -10: 0, -3: 0, -2: 1, 4: 1, 5: 2, 12: 2, 13: 3, 19: 3, 20: 4, 21: 4, most: 4} {
		wantNeedle(t, i, n, want)
	}
	wide := dial("d", -most, most, panel.MaxSteps)
	for n, want := range map[int]int{-most: 0, -1: 499, 0: 500, most - 1: 999, most: 1000} {
		wantNeedle(t, wide, n, want)
	}
	r := dice(1)
	for range 5000 {
		size := 1 << r.IntN(51)
		low := r.IntN(2*size) - size
		i := dial("d", low, low+1+r.IntN(size-low), 1+r.IntN(panel.MaxSteps))
		n := i.Low + r.IntN(i.High-i.Low+1)
		share := new(big.Int).Mul(big.NewInt(int64(n-i.Low)), big.NewInt(int64(i.Steps)))
		wantNeedle(t, i, n, int(share.Div(share, big.NewInt(int64(i.High-i.Low))).Int64()))
	}
}

// H2
func TestZoneOf(t *testing.T) {
	i := dial("d", 0, 5, 1, api.Zone{From: -7, To: -7, Name: "one"}, api.Zone{From: -5, To: 3, Name: "two"}, api.Zone{From: 4, To: most + 9, Name: "one"})
	for n, want := range map[int]string{-most: "", -8: "", -7: "one", -6: "", -5: "two", 0: "two", 3: "two", 4: "one", most: "one"} {
		zone, e := panel.ZoneOf(i, n)
		wantErrno(t, "ZoneOf", e, api.OK)
		wantSame(t, fmt.Sprint("ZoneOf at ", n), zone, want)
	}
	zone, e := panel.ZoneOf(dial("d", 0, 5, 1), 3)
	wantWrong(t, "no zones", results(zone, e), api.OK)
}

// H2: errors of Needle and ZoneOf.
func TestDialErrors(t *testing.T) {
	for name, call := range map[string]func(i api.Instrument, n int) []any{
		"Needle": func(i api.Instrument, n int) []any { return results(panel.Needle(i, n)) },
		"ZoneOf": func(i api.Instrument, n int) []any { return results(panel.ZoneOf(i, n)) },
	} {
		wantWrong(t, name+" of a wrong dial", call(dial("d", 5, 5, 0), most+1), api.ErrRange)
		wantWrong(t, name+" of a wrong tape", call(tape("?", 0, 0), most+1), api.ErrName)
		for _, i := range each().Instruments {
			if i.Kind != api.ShowDial {
				wantWrong(t, fmt.Sprint(name, " of the kind ", i.Kind), call(i, most+1), api.ErrKind)
			}
		}
		for _, b := range beyond() {
			wantWrong(t, fmt.Sprint(name, " at ", b), call(dial("d", 0, 5, 1, api.Zone{From: -1 << 63, To: 1<<63 - 1, Name: "z"}), b), api.ErrRange)
		}
	}
}

func wantDigits(t *testing.T, n, den, places int, want string) {
	t.Helper()
	s, e := panel.Digits(n, den, places)
	wantErrno(t, "Digits", e, api.OK)
	wantSame(t, fmt.Sprint("Digits of ", n, " / ", den, " with ", places), s, want)
}

// plainDigits rounds with fractions of any size.
func plainDigits(n, den, places int) string {
	s := big.NewRat(int64(n), int64(den)).FloatString(places) // half away from 0
	if strings.Trim(s, "-0.") == "" {
		return strings.TrimPrefix(s, "-")
	}
	return s
}

// H2
func TestDigits(t *testing.T) {
	for _, c := range []struct {
		n, den, places int
		want           string
	}{
		{0, 1, 0, "0"}, {0, 7, 3, "0.000"}, {5, 1, 0, "5"}, {-5, 1, 2, "-5.00"}, {25, 10, 0, "3"}, {-25, 10, 0, "-3"}, {24, 10, 0, "2"}, {-24, 10, 0, "-2"},
		{4, 10, 0, "0"}, {-4, 10, 0, "0"}, {-5, 10, 0, "-1"}, {5, 10, 0, "1"}, {-4, 1000, 2, "0.00"}, {-5, 1000, 2, "-0.01"}, {105, 100, 1, "1.1"}, {104, 100, 1, "1.0"},
		{1, 3, 6, "0.333333"}, {2, 3, 6, "0.666667"}, {999999, 1000000, 5, "1.00000"}, {999999, 1000000, 6, "0.999999"}, {1, 1000000, 6, "0.000001"}, {-1, 1000000, 6, "-0.000001"},
		{995, 100, 1, "10.0"}, {-995, 100, 1, "-10.0"}, {most, 1, 6, "1125899906842624.000000"}, {-most, 1, 6, "-1125899906842624.000000"},
		{most, 1000000, 6, "1125899906.842624"}, {most, 999999, 0, "1125901033"}, {7, 2, 1, "3.5"}, {100, 1000, 2, "0.10"}, {1003, 1000, 2, "1.00"},
	} {
		wantDigits(t, c.n, c.den, c.places, c.want)
	}
	r := dice(2)
	for range 20000 {
		n, den, places := r.IntN(2<<r.IntN(50)), 1+r.IntN(1<<r.IntN(20)), r.IntN(panel.MaxPlaces+1)
		n = pick(r, n, -n)
		if r.IntN(2) == 0 { // so that halves are met
			den = pick(r, 2, 4, 8, 10, 16, 20, 40, 200, 2000, 20000, 200000, 1000000)
		}
		wantDigits(t, n, den, places, plainDigits(n, den, places))
	}
}

// H2
func TestDigitsErrors(t *testing.T) {
	for _, c := range [][3]int{{most + 1, 1, 1}, {-most - 1, 1, 1}, {1, 0, 1}, {1, -1, 1}, {1, series.MaxDen + 1, 1}, {1, 1, -1}, {1, 1, panel.MaxPlaces + 1}} {
		wantWrong(t, fmt.Sprint("Digits ", c), results(panel.Digits(c[0], c[1], c[2])), api.ErrRange)
	}
	for _, b := range beyond() {
		wantWrong(t, fmt.Sprint("Digits of ", b), results(panel.Digits(b, 1, 1)), api.ErrRange)
		wantWrong(t, fmt.Sprint("Digits of parts of ", b), results(panel.Digits(1, b, 1)), api.ErrRange)
		wantWrong(t, fmt.Sprint("Digits with ", b), results(panel.Digits(1, 1, b)), api.ErrRange)
	}
	wantDigits(t, 1, series.MaxDen, panel.MaxPlaces, "0.000001")
}

// H2
func TestHolds(t *testing.T) {
	for op, want := range map[int][3]bool{
		api.Less: {true, false, false}, api.AtMost: {true, true, false}, api.Equal: {false, true, false},
		api.Differs: {true, false, true}, api.AtLeast: {false, true, true}, api.Greater: {false, false, true},
	} {
		for _, c := range [][3]int{{4, 5, 6}, {-1 << 63, 0, 1<<63 - 1}, {-7, -6, 7}} {
			for i, a := range c {
				is, e := panel.Holds(op, a, c[1])
				wantErrno(t, "Holds", e, api.OK)
				wantSame(t, fmt.Sprint("Holds ", op, a, c[1]), is, want[i])
			}
		}
	}
	for _, op := range append(beyond(), -1, 0, 7) {
		wantWrong(t, fmt.Sprint("the op ", op), results(panel.Holds(op, 1, 1)), api.ErrKind)
		wantWrong(t, fmt.Sprint("the op ", op), results(panel.Holds(op, 2, 1)), api.ErrKind)
	}
}
