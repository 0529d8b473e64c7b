package finding_test

import (
	"fmt"
	"math/big"
	"slices"
	"testing"

	"orangebox/api"
	"orangebox/event"
	"orangebox/finding"
	"orangebox/series"
)

func clashesOf(t *testing.T, l []api.Track, twins []api.Twins, first, last int) []api.Clash {
	t.Helper()
	clashes, e := finding.Clashes(l, twins, first, last)
	wantErrno(t, "Clashes", e, api.OK)
	return clashes
}

// G5: stretches of frames in which both are known and differ by more than Most, as long as possible.
func TestClashes(t *testing.T) {
	l := []api.Track{
		framed("a", 1, 2, 5, 5, 5, 5, 5, unknown, 5, 5, 5),
		framed("b", 1, 2, 5, 9, 1, 8, 2, 99, 9, unknown, 9),
		framed("c", 3, 2, 15, 16, 24, 27, 28, 14, 6, 3, 2),
	}
	for name, c := range map[string]struct {
		twins       []api.Twins
		first, last int
		want        []api.Clash
	}{
		"more than 3":           {[]api.Twins{{A: "a", B: "b", Most: 3}}, 0, 20, []api.Clash{{From: 3, To: 4}, {From: 8, To: 8}, {From: 10, To: 10}}},
		"more than 4":           {[]api.Twins{{A: "a", B: "b", Most: 4}}, 0, 20, nil},
		"more than 2":           {[]api.Twins{{A: "a", B: "b", Most: 2}}, 0, 20, []api.Clash{{From: 3, To: 6}, {From: 8, To: 8}, {From: 10, To: 10}}},
		"more than 0":           {[]api.Twins{{A: "b", B: "a"}}, 0, 20, []api.Clash{{From: 3, To: 6}, {From: 8, To: 8}, {From: 10, To: 10}}},
		"of some frames":        {[]api.Twins{{A: "b", B: "a"}}, 4, 5, []api.Clash{{From: 4, To: 5}}},
		"of one frame":          {[]api.Twins{{A: "b", B: "a"}}, 4, 4, []api.Clash{{From: 4, To: 4}}},
		"of none that is known": {[]api.Twins{{A: "b", B: "a"}}, 7, 7, nil},
		"parts":                 {[]api.Twins{{A: "a", B: "c", Most: 4}}, 0, 20, []api.Clash{{From: 6, To: 6}, {From: 10, To: 10}}},
		"parts of the other":    {[]api.Twins{{A: "c", B: "a", Most: 12}}, 0, 20, []api.Clash{{From: 6, To: 6}, {From: 10, To: 10}}},
		"more parts":            {[]api.Twins{{A: "c", B: "a", Most: 4}}, 0, 20, []api.Clash{{From: 4, To: 6}, {From: 8, To: 10}}},
		"itself":                {[]api.Twins{{A: "c", B: "c"}}, 0, 20, nil},
		"several, in order": {[]api.Twins{{A: "c", B: "a", Most: 12}, {A: "b", B: "a", Most: 3}, {A: "c", B: "a", Most: 12}}, 4, 9,
			[]api.Clash{{From: 6, To: 6}, {Twins: 1, From: 4, To: 4}, {Twins: 1, From: 8, To: 8}, {Twins: 2, From: 6, To: 6}}},
		"no twins": {nil, 4, 9, nil},
	} {
		wantSame(t, name, clashesOf(t, l, c.twins, c.first, c.last), c.want)
	}
}

// differ reports exactly whether a of denA and b of denB differ by more than most of denA.
func differ(a, denA, b, denB, most int) bool {
	x := big.NewRat(int64(a), int64(denA))
	x.Sub(x, big.NewRat(int64(b), int64(denB)))
	return x.Abs(x).Cmp(big.NewRat(int64(most), int64(denA))) > 0
}

// G5: differences are exact, however great numbers and Dens are.
func TestClashesAreExact(t *testing.T) {
	d := dice(10)
	counts := map[bool]int{}
	for range 4000 {
		denA, denB := pick(d, 1, 2, 3, 999999, 1000000), pick(d, 1, 3, 7, 999999, 1000000)
		a := pick(d, 0, 1, -1, d.IntN(2000)-1000, series.MaxN-d.IntN(3), -series.MaxN+d.IntN(3), d.IntN(2*series.MaxN)-series.MaxN)
		b := pick(d, 0, 1, -1, d.IntN(2000)-1000, series.MaxN-d.IntN(3), -series.MaxN+d.IntN(3), d.IntN(2*series.MaxN)-series.MaxN)
		if d.IntN(2) == 0 {
			b = max(-series.MaxN, min(series.MaxN, a/denA*denB+a%denA*denB/denA))
		}
		apart := new(big.Rat).Mul(big.NewRat(int64(denA), 1), new(big.Rat).Sub(big.NewRat(int64(a), int64(denA)), big.NewRat(int64(b), int64(denB))))
		near, _ := apart.Abs(apart).Float64()
		most := pick(d, 0, 1, series.MaxN, max(0, min(series.MaxN, int(min(near, 1<<50))+d.IntN(3)-1)))
		l := []api.Track{framed("a", denA, 0, a), framed("b", denB, 0, b)}
		got := clashesOf(t, l, []api.Twins{{A: "a", B: "b", Most: most}}, 0, 0)
		want := differ(a, denA, b, denB, most)
		if (len(got) == 1) != want {
			t.Errorf("%d/%d and %d/%d differ by more than %d: got %v, want %v", a, denA, b, denB, most, got, want)
		}
		counts[want]++
	}
	if counts[true] < 500 || counts[false] < 500 {
		t.Error("clashes by chance:", counts)
	}
}

// G5: the same stretches as by Inputs, frame by frame.
func TestClashesByChance(t *testing.T) {
	d := dice(11)
	for range 100 {
		l := tracksOf(t, someBook(t, d))
		first := d.IntN(40)
		last := first + d.IntN(40)
		twins := []api.Twins{{A: "a", B: "b", Most: d.IntN(300)}, {A: "d", B: "c", Most: d.IntN(300)}}
		var want []api.Clash
		for i, w := range twins {
			before := false
			for frame := first; frame <= last; frame++ {
				x, _ := event.Inputs(l, frame)
				a, b := slices.IndexFunc(l, func(t api.Track) bool { return t.Name == w.A }), slices.IndexFunc(l, func(t api.Track) bool { return t.Name == w.B })
				is := x[a].Known && x[b].Known && differ(x[a].N, l[a].Series.Den, x[b].N, l[b].Series.Den, w.Most)
				if is && before {
					want[len(want)-1].To = frame
				} else if is {
					want = append(want, api.Clash{Twins: i, From: frame, To: frame})
				}
				before = is
			}
		}
		wantSame(t, "by chance", clashesOf(t, l, twins, first, last), want)
	}
}

// wrongFrames has frames with errors, of which there can be 20000.
func wrongFrames() map[api.Extent]api.Errno {
	l := map[api.Extent]api.Errno{
		{From: -1, To: 5}:               api.ErrRange,
		{From: 6, To: 5}:                api.ErrRange,
		{From: 6, To: api.Number}:       api.ErrRange,
		{From: 5, To: 20005}:            api.ErrSize,
		{From: 0, To: api.Number - 1}:   api.ErrSize,
		{From: -1, To: api.Number * 2}:  api.ErrRange,
		{From: 20001, To: 50002}:        api.ErrSize,
		{From: 0, To: event.MaxSpan}:    api.ErrSize,
		{From: 1 << 30, To: 1<<30 + 1}:  api.ErrRange,
		{From: api.Number, To: 1 << 40}: api.ErrRange,
	}
	for _, n := range beyond() {
		l[api.Extent{From: n, To: 5}], l[api.Extent{From: 5, To: n}] = api.ErrRange, api.ErrRange
	}
	return l
}

// G5: the errors of Clashes in their order.
func TestWrongClashes(t *testing.T) {
	l := []api.Track{framed("a", 1, 0, 1), framed("b", 1, 0, 2)}
	right := api.Twins{A: "a", B: "b"}
	for name, c := range map[string]struct {
		tracks []api.Track
		twins  []api.Twins
		want   api.Errno
	}{
		"tracks":                   {[]api.Track{framed("A", 1, 0)}, make([]api.Twins, 31), api.ErrName},
		"a track twice":            {[]api.Track{l[0], l[0]}, make([]api.Twins, 31), api.ErrTwice},
		"too many twins":           {l, make([]api.Twins, 31), api.ErrSize},
		"no A":                     {l, []api.Twins{{A: "c", B: "b", Most: -1}}, api.ErrNone},
		"no B":                     {l, []api.Twins{{A: "a", B: "", Most: -1}}, api.ErrNone},
		"a negative Most":          {l, []api.Twins{right, {A: "a", B: "b", Most: -1}, {}}, api.ErrRange},
		"Most beyond":              {l, []api.Twins{{A: "a", B: "b", Most: series.MaxN + 1}}, api.ErrRange},
		"the first, then the next": {l, []api.Twins{{}, {A: "a", B: "b", Most: -1}}, api.ErrNone},
		"twins, then frames":       {l, []api.Twins{{A: "a"}}, api.ErrNone},
	} {
		wantWrong(t, name, results(finding.Clashes(c.tracks, c.twins, -1, -2)), c.want)
	}
	for frames, want := range wrongFrames() {
		wantWrong(t, fmt.Sprint(frames), results(finding.Clashes(l, []api.Twins{right}, frames.From, frames.To)), want)
	}
	for _, n := range beyond() {
		wantWrong(t, fmt.Sprint(n), results(finding.Clashes(l, []api.Twins{{A: "a", B: "b", Most: n}}, 0, 0)), api.ErrRange)
	}
	thirty := slices.Repeat([]api.Twins{right}, finding.MaxTwins)
	wantSame(t, "30 twins of 20000 frames", len(clashesOf(t, l, thirty, 0, event.MaxSpan-1)), 30)
	wantSame(t, "the last frames", clashesOf(t, l, thirty, api.Number-event.MaxSpan, api.Number-1), []api.Clash(nil))
	thirty[29].Most = series.MaxN
	wantSame(t, "the greatest Most", len(clashesOf(t, l, thirty, 0, 0)), 29)
}

func voted(t *testing.T, l []api.Track, most, first, last int, names ...string) (api.Track, []int) {
	t.Helper()
	x, out, e := finding.Vote(l, names, most, first, last)
	wantErrno(t, "Vote", e, api.OK)
	return x, out
}

// G5: the middle one of three, the lesser one of two that are near, otherwise nothing.
func TestVote(t *testing.T) {
	l := []api.Track{
		framed("d", 1, 0),
		framed("a", 5, 10, 3, 9, 5, 5, 5, 5, 9, unknown, 4, unknown, 1, 7, 7, 0),
		framed("b", 5, 10, 1, 5, 9, 5, 5, 8, 5, 8, unknown, unknown, 6, 7, 1, -4),
		framed("c", 5, 10, 2, 5, 5, 9, 5, 2, unknown, 5, 8, 7, 3, 1, 7, 4),
	}
	want := []int{2, 5, 5, 5, 5, 5, unknown, 5, unknown, unknown, 3, 7, 7, 0}
	made := api.Track{Name: "a", Series: api.Series{Den: 5}, Long: 63}
	for i, n := range want {
		x := lost(64*(10+i) + 63)
		if n != unknown {
			x = good(x.At, n)
		}
		made.Series.Samples = append(made.Series.Samples, x)
	}
	x, out := voted(t, l, 3, 10, 23, "a", "b", "c")
	wantSame(t, "Vote", x, made)
	wantSame(t, "outvoted", out, []int{1, 2, 2})
	x, out = voted(t, l, 3, 10, 23, "c", "b", "a")
	made.Name = "c"
	wantSame(t, "in another order", x, made)
	wantSame(t, "outvoted in another order", out, []int{2, 2, 1})
	x, out = voted(t, l, 4, 15, 17, "a", "b", "c")
	wantSame(t, "more apart", x, track("a", 5, 63, good(1023, 5), good(1087, 5), good(1151, 5)))
	wantSame(t, "none outvoted", out, []int{0, 0, 0})
	x, out = voted(t, l, 0, 9, 13, "a", "b", "c")
	wantSame(t, "with most 0", x, track("a", 5, 63, lost(639), good(703, 2), good(767, 5), good(831, 5), good(895, 5)))
	wantSame(t, "outvoted with most 0", out, []int{1, 1, 1})
	x, out = voted(t, l, 3, 100, 100, "a", "b", "c")
	wantSame(t, "nothing known", x, track("a", 5, 63, lost(6463)))
	wantSame(t, "nothing known", out, []int{0, 0, 0})
}

// G5: the same as by the words of the document, frame by frame.
func TestVoteByChance(t *testing.T) {
	d := dice(12)
	for range 200 {
		var l []api.Track
		for _, name := range []string{"a", "b", "c"} {
			l = append(l, framed(name, 1, 2, many(20, func(int) int { return pick(d, unknown, d.IntN(9), d.IntN(9), d.IntN(9)) })...))
		}
		most := d.IntN(4)
		want, out := track("b", 1, 63), make([]int, 3)
		for frame := 1; frame <= 22; frame++ {
			x, _ := event.Inputs([]api.Track{l[1], l[2], l[0]}, frame)
			s, k := plainVote(x, most)
			s.At = 64*frame + 63
			want.Series.Samples = append(want.Series.Samples, s)
			if k >= 0 {
				out[k]++
			}
		}
		x, counts := voted(t, l, most, 1, 22, "b", "c", "a")
		wantSame(t, "by chance", x, want)
		wantSame(t, "outvoted by chance", counts, out)
	}
}

// plainVote returns what three are together, and which one is outvoted, or -1.
func plainVote(x []api.Told, most int) (api.Sample, int) {
	var l []int
	for _, y := range x {
		if y.Known {
			l = append(l, y.N)
		}
	}
	slices.Sort(l)
	if len(l) < 2 || len(l) == 2 && l[1]-l[0] > most {
		return api.Sample{}, -1
	}
	if len(l) == 2 {
		return good(0, l[0]), -1
	}
	for i, y := range x {
		one, other := x[(i+1)%3].N, x[(i+2)%3].N
		for _, p := range [][2]int{{one, other}, {other, one}} { // the middle one, and the third one
			far := max(y.N-p[0], p[0]-y.N) > most
			near := max(p[1]-p[0], p[0]-p[1]) <= most
			if p[0] == l[1] && far && near {
				return good(0, l[1]), i
			}
		}
	}
	return good(0, l[1]), -1
}

// G5: the errors of Vote in their order, and the greatest numbers.
func TestWrongVotes(t *testing.T) {
	l := []api.Track{framed("a", 2, 0, series.MaxN), framed("b", 2, 0, -series.MaxN), framed("c", 2, 0, -series.MaxN), framed("d", 1, 0)}
	for name, c := range map[string]struct {
		tracks []api.Track
		names  []string
		most   int
		want   api.Errno
	}{
		"tracks":                     {[]api.Track{framed("A", 1, 0)}, nil, -1, api.ErrName},
		"two names":                  {l, []string{"x", "x"}, -1, api.ErrForm},
		"four names":                 {l, []string{"a", "b", "c", "d"}, -1, api.ErrForm},
		"no names":                   {l, nil, -1, api.ErrForm},
		"no track":                   {l, []string{"a", "x", "d"}, -1, api.ErrNone},
		"no third track":             {l, []string{"a", "d", ""}, -1, api.ErrNone},
		"no track, though one twice": {l, []string{"a", "a", "x"}, -1, api.ErrNone},
		"the first two":              {l, []string{"d", "d", "a"}, -1, api.ErrTwice},
		"the last two":               {l, []string{"d", "a", "a"}, -1, api.ErrTwice},
		"the outer two":              {l, []string{"a", "d", "a"}, -1, api.ErrTwice},
		"another first Den":          {l, []string{"d", "a", "b"}, -1, api.ErrForm},
		"another second Den":         {l, []string{"a", "d", "b"}, -1, api.ErrForm},
		"another third Den":          {l, []string{"a", "b", "d"}, -1, api.ErrForm},
		"a negative most":            {l, []string{"a", "b", "c"}, -1, api.ErrRange},
		"most beyond":                {l, []string{"a", "b", "c"}, series.MaxN + 1, api.ErrRange},
	} {
		wantWrong(t, name, results(finding.Vote(c.tracks, c.names, c.most, 0, 1<<40)), c.want)
		wantWrong(t, name, results(finding.Vote(c.tracks, c.names, c.most, 0, event.MaxSpan)), c.want)
	}
	abc := []string{"a", "b", "c"}
	for frames, want := range wrongFrames() {
		wantWrong(t, fmt.Sprint(frames), results(finding.Vote(l, abc, 0, frames.From, frames.To)), want)
	}
	for _, n := range beyond() {
		wantWrong(t, fmt.Sprint(n), results(finding.Vote(l, abc, n, 0, 0)), api.ErrRange)
	}
	x, out := voted(t, l, series.MaxN, 0, event.MaxSpan-1, abc...)
	wantSame(t, "20000 frames", len(x.Series.Samples), 20000)
	wantSame(t, "the greatest numbers", x.Series.Samples[0], good(63, -series.MaxN))
	wantSame(t, "outvoted", out, []int{1, 0, 0})
	wantErrno(t, "tracks again", event.CheckTracks([]api.Track{x}), api.OK)
	x, _ = voted(t, l, 0, api.Number-1, api.Number-1, abc...)
	wantSame(t, "the last frame", x, track("a", 2, 63, lost(64*api.Number-1)))
}
