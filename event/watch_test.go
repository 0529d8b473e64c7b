package event_test

import (
	"fmt"
	"math/rand/v2"
	"slices"
	"testing"

	"orangebox/api"
	"orangebox/event"
	"orangebox/series"
)

func watchOf(t *testing.T, r api.Rules, l []api.Track) *event.Watch {
	t.Helper()
	w, e := event.New(r, l)
	wantErrno(t, "New", e, api.OK)
	return w
}

func nextOf(t *testing.T, w *event.Watch, x []api.Told) []int {
	t.Helper()
	truths, e := w.Next(x)
	wantErrno(t, "Next", e, api.OK)
	return truths
}

// column returns the truths of all rules in one frame.
func column(truths [][]int, frame int) []int {
	l := make([]int, len(truths))
	for i := range l {
		l[i] = truths[i][frame]
	}
	return l
}

// keptMost is the bound of the document for Kept.
func keptMost(r api.Rules) int {
	most := len(r.Phases)
	var add func(c api.Cond)
	add = func(c api.Cond) {
		switch c.Kind {
		case api.CondFor, api.CondWithin, api.CondCount, api.CondSteady:
			most += c.Frames - 1
		case api.CondSince, api.CondRises:
			most++
		}
		for _, kid := range c.Kids {
			add(kid)
		}
	}
	for _, m := range r.Moves {
		add(m.When)
	}
	for _, x := range r.Rules {
		add(x.When)
	}
	return most
}

func wantKept(t *testing.T, name string, w *event.Watch, r api.Rules) {
	t.Helper()
	if kept := w.Kept(); kept < 0 || kept > keptMost(r) {
		t.Errorf("%s: keeps %d, at most %d", name, kept, keptMost(r))
	}
}

// F7: what Evaluate and Phases return, from any first frame on, also for a copy that was made on the way.
func TestWatch(t *testing.T) {
	r := dice(9)
	for range 1500 {
		rules := someRules(r, 4, 5)
		tracks := someTracks(r, 0, 16)
		from := r.IntN(4)
		truths, phases := plainOf(rules, tracks, from).evaluate(15)
		w := watchOf(t, rules, tracks)
		wantSame(t, "Phase ahead of all frames", w.Phase(), rules.Phases[:min(1, len(rules.Phases))])
		wantKept(t, "ahead of all frames", w, rules)
		for frame := from; frame <= 15; frame++ {
			if r.IntN(5) == 0 {
				other := w.Copy()
				if r.IntN(2) == 0 {
					w, other = other, w
				}
				goAstray(t, r, other)
			}
			name := fmt.Sprint(rules, tracks, " from ", from, " in ", frame)
			wantSame(t, "Next "+name, nextOf(t, w, inputsOf(t, tracks, frame)), column(truths, frame-from))
			wantSame(t, "Phase "+name, w.Phase(), phases[frame-from])
			wantKept(t, name, w, rules)
		}
	}
}

// goAstray gives a watch of three tracks some frames, of which some are wrong.
func goAstray(t *testing.T, r *rand.Rand, w *event.Watch) {
	t.Helper()
	for range r.IntN(8) {
		if r.IntN(4) == 0 {
			wantWrong(t, "Next", results(w.Next([]api.Told{{}, {N: 1}, {}})), api.ErrForm)
			continue
		}
		nextOf(t, w, told(someNumbers(r, 3, 4)...))
	}
}

// F7: of tracks only the names, the Dens and the order matter.
func TestWatchTracks(t *testing.T) {
	r := ruledBy(t, "rule a if x > 5 rule b if y < x rule c if steady y 3 2")
	frames := [][]api.Told{told(6, 0, 9), told(unknown, 1, 2), told(5, unknown, 5), told(-series.MaxN, series.MaxN, series.MaxN)}
	for _, l := range [][]api.Track{
		{track("x", 3, 0), track("z", 1, 0), track("y", 5, 0)},
		{track("x", 3, 7, good(5, 9)), track("z", 9, 3, lost(7)), track("y", 5, series.MaxAt, good(0, 1), good(1, 1))},
	} {
		w := watchOf(t, r, l)
		for i, want := range [][]int{{2, 2, 0}, {0, 0, 1}, {1, 2, 2}, {1, 1, 1}} {
			wantSame(t, fmt.Sprint("frame ", i), nextOf(t, w, frames[i]), want)
		}
	}
	w := watchOf(t, r, []api.Track{track("y", 5, 0), track("x", 3, 0)})
	wantSame(t, "another order", nextOf(t, w, told(9, 6)), []int{2, 2, 0})
	w = watchOf(t, r, []api.Track{track("y", 1, 0), track("x", 3, 0)})
	wantSame(t, "another Den", nextOf(t, w, told(9, 6)), []int{2, 1, 0})
	w = watchOf(t, api.Rules{}, nil)
	wantSame(t, "nothing", nextOf(t, w, nil), []int{})
	wantSame(t, "no phases", w.Phase(), []string{})
	wantSame(t, "nothing is kept", w.Kept(), 0)
}

// F7: what cannot be given, and that nothing has changed then.
func TestNextErrors(t *testing.T) {
	r := ruledBy(t, "phase p phase q move p q if x > 5 rule a if for 2 x > 5 rule b if rises x > 5 rule c if steady x 1 2 rule d if since x > 0 x > 5")
	w := watchOf(t, r, []api.Track{track("x", 1, 0), track("y", 1, 0)})
	wrong := func() {
		t.Helper()
		before, kept := w.Phase(), w.Kept()
		for name, c := range map[string]struct {
			x    []api.Told
			want api.Errno
		}{
			"none":                      {nil, api.ErrForm},
			"one":                       {told(5), api.ErrForm},
			"three":                     {told(5, 5, 5), api.ErrForm},
			"a number that is unknown":  {[]api.Told{{N: 9}, {}}, api.ErrForm},
			"another one":               {[]api.Told{{}, {N: -1}}, api.ErrForm},
			"beyond, that is unknown":   {[]api.Told{{N: series.MaxN + 1}, {}}, api.ErrForm},
			"above":                     {told(9, series.MaxN+1), api.ErrRange},
			"below":                     {told(-series.MaxN-1, 9), api.ErrRange},
			"range, then form":          {[]api.Told{{N: series.MaxN + 1, Known: true}, {N: 1}}, api.ErrRange},
			"form, then range":          {[]api.Told{{N: 1}, {N: series.MaxN + 1, Known: true}}, api.ErrForm},
			"too many, one of them bad": {[]api.Told{{}, {}, {N: series.MaxN + 1, Known: true}}, api.ErrForm},
		} {
			wantWrong(t, name, results(w.Next(c.x)), c.want)
		}
		for _, b := range beyond()[1:] {
			wantWrong(t, fmt.Sprint(b), results(w.Next(told(9, b))), api.ErrRange)
		}
		wantSame(t, "Phase behind errors", w.Phase(), before)
		wantSame(t, "Kept behind errors", w.Kept(), kept)
	}
	wrong()
	wantSame(t, "frame 0", nextOf(t, w, told(5, unknown)), []int{1, 1, 0, 0})
	wrong()
	wantSame(t, "frame 1", nextOf(t, w, told(6, series.MaxN)), []int{1, 2, 2, 2})
	wrong()
	wantSame(t, "frame 2", nextOf(t, w, told(7, -series.MaxN)), []int{2, 1, 2, 2})
	wrong()
	wantSame(t, "frame 3", nextOf(t, w, told(unknown, 0)), []int{0, 1, 0, 0})
	wantSame(t, "Phase", w.Phase(), []string{"q"})
}

// F7: never more than what the frames before can need.
func TestKept(t *testing.T) {
	r := dice(10)
	for text, most := range map[string]int{
		"rule a if true": 0,
		"rule a if for 1 x > 1 and within 1 x > 1 or count 1 of 1 x > 1 or steady x 0 1": 0,
		"rule a if not rises x > 1":                                 1,
		"rule a if since x > 1 x > 2":                               1,
		"rule a if for 2 within 3 count 1 of 4 since true x > 2":    1 + 2 + 3 + 1,
		"rule a if steady x 5 2":                                    1,
		"rule a if steady x 5 50 and for 50 steady x 0 2":           49 + 49 + 1,
		"phase p phase q move p q if for 9 x > 1 rule a if phase q": 2 + 8,
		"phase p phase q phase s":                                   3,
	} {
		rules := ruledBy(t, text)
		wantSame(t, "the bound of "+text, keptMost(rules), most)
		for _, numbers := range [][]int{someNumbers(r, 200, 9), rising(200, 1), rising(200, -1), make([]int, 200), zigzag(200)} {
			w := watchOf(t, rules, []api.Track{track("x", 1, 0)})
			wantKept(t, text, w, rules)
			for _, n := range numbers {
				nextOf(t, w, told(n))
				wantKept(t, text, w, rules)
				wantKept(t, text+", a copy", w.Copy(), rules)
			}
		}
	}
}

func rising(count, step int) []int {
	l := make([]int, count)
	for i := range l {
		l[i] = i * step
	}
	return l
}

// zigzag comes nearer to 0, so that each number is less, or greater, than all later ones.
func zigzag(count int) []int {
	l := make([]int, count)
	for i := range l {
		l[i] = (count - i) * (1 - i%2*2)
	}
	return l
}

// F1, F7: the numbers that matter for steady tracks, in all orders.
func TestSteadyWatch(t *testing.T) {
	r := dice(11)
	for _, numbers := range [][]int{someNumbers(r, 150, 20), rising(150, 3), rising(150, -3), zigzag(150), slices.Concat(zigzag(75), rising(75, 1))} {
		for _, frames := range []int{1, 2, 3, 7, 40} {
			for _, most := range []int{0, 2, 5, 100, 280} {
				rules := ruled(steady("x", most, frames))
				tracks := []api.Track{framed("x", 1, 0, numbers...)}
				truths, _ := plainOf(rules, tracks, 0).evaluate(149)
				wantSame(t, fmt.Sprint("steady ", most, frames, numbers), truthsOf(t, rules, tracks, 0, 149), truths)
			}
		}
	}
}

// F7: a copy is like the watch, and each of both goes its own way.
func TestCopy(t *testing.T) {
	r := ruledBy(t, "phase p phase q move p q if count 2 of 3 x > 5 rule a if for 3 x > 5 rule b if rises x > 5 rule c if steady x 1 3 rule d if since x > 0 x > 5 rule e if within 3 x > 8")
	l := []api.Track{track("x", 1, 0)}
	for ahead := range 5 {
		for _, others := range [][]int{{9, 9, 9, 9}, {0, 0, 0, 0}, {unknown, unknown, unknown, unknown}} {
			w, alone := watchOf(t, r, l), watchOf(t, r, l)
			numbers := []int{6, 7, 6, 9, 8, 7, 0, 1, 2}
			for _, n := range numbers[:ahead] {
				nextOf(t, w, told(n))
				nextOf(t, alone, told(n))
			}
			twin, kept := w.Copy(), w.Kept()
			wantSame(t, "Kept of a copy", twin.Kept(), kept)
			wantSame(t, "Phase of a copy", twin.Phase(), w.Phase())
			for i, n := range numbers[ahead:] {
				if i < len(others) {
					nextOf(t, w, told(others[i]))
				}
				wantSame(t, "Next of a copy", nextOf(t, twin, told(n)), nextOf(t, alone, told(n)))
				wantSame(t, "Phase of a copy", twin.Phase(), alone.Phase())
			}
		}
	}
}
