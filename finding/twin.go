package finding

import (
	"slices"

	"orangebox/api"
	"orangebox/event"
	"orangebox/series"
)

const voters = 3

// Clashes returns the stretches of frames in which twins differ.
func Clashes(l []api.Track, twins []api.Twins, first, last int) ([]api.Clash, api.Errno) {
	if e := CheckTwins(l, twins); e != api.OK {
		return nil, e
	}
	if e := checkFrames(first, last, event.MaxSpan); e != api.OK {
		return nil, e
	}
	var clashes []api.Clash
	for i, x := range twins {
		for _, frames := range stretches(differing(l, x, first, last)) {
			clashes = append(clashes, api.Clash{Twins: i, From: first + frames.From, To: first + frames.To})
		}
	}
	return clashes, api.OK
}

// Vote makes one track of three, and returns how often each of them was outvoted.
func Vote(l []api.Track, names []string, most, first, last int) (api.Track, []int, api.Errno) {
	tracks, e := checkVote(l, names, most)
	if e != api.OK {
		return api.Track{}, nil, e
	}
	if e := checkFrames(first, last, min(event.MaxSpan, series.MaxSamples)); e != api.OK {
		return api.Track{}, nil, e
	}
	var told [voters][]api.Told
	for i, t := range tracks {
		told[i] = event.ToldIn(t, first, last-first+1)
	}
	voted := api.Track{Name: names[0], Series: api.Series{Den: tracks[0].Series.Den}, Long: lastTick}
	outvoted := make([]int, voters)
	for i := range last - first + 1 {
		now := [voters]api.Told{told[0][i], told[1][i], told[2][i]}
		x := vote(now, most)
		x.At = api.Ticks*(first+i) + lastTick
		voted.Series.Samples = append(voted.Series.Samples, x)
		if k := loser(now, most); k >= 0 {
			outvoted[k]++
		}
	}
	return voted, outvoted, api.OK
}

// CheckTwins returns what is wrong with tracks, or with twins among them.
func CheckTwins(l []api.Track, twins []api.Twins) api.Errno {
	if e := event.CheckTracks(l); e != api.OK {
		return e
	}
	if len(twins) > MaxTwins {
		return api.ErrSize
	}
	for _, x := range twins {
		if event.TrackNumber(l, x.A) < 0 || event.TrackNumber(l, x.B) < 0 {
			return api.ErrNone
		}
		if x.Most < 0 || x.Most > series.MaxN {
			return api.ErrRange
		}
	}
	return api.OK
}

// checkVote returns the tracks with three names, or what is wrong with them.
func checkVote(l []api.Track, names []string, most int) ([voters]api.Track, api.Errno) {
	var tracks [voters]api.Track
	if e := event.CheckTracks(l); e != api.OK {
		return tracks, e
	}
	if len(names) != voters {
		return tracks, api.ErrForm
	}
	for i, name := range names {
		number := event.TrackNumber(l, name)
		if number < 0 {
			return tracks, api.ErrNone
		}
		tracks[i] = l[number]
	}
	if names[1] == names[0] || names[2] == names[0] || names[2] == names[1] {
		return tracks, api.ErrTwice
	}
	if den := tracks[0].Series.Den; tracks[1].Series.Den != den || tracks[2].Series.Den != den {
		return tracks, api.ErrForm
	}
	if most < 0 || most > series.MaxN {
		return tracks, api.ErrRange
	}
	return tracks, api.OK
}

// differing reports for each frame whether twins differ.
func differing(l []api.Track, x api.Twins, first, last int) []bool {
	one, other := l[event.TrackNumber(l, x.A)], l[event.TrackNumber(l, x.B)]
	a, b := event.ToldIn(one, first, last-first+1), event.ToldIn(other, first, last-first+1)
	denA, denB := one.Series.Den, other.Series.Den
	differ := make([]bool, len(a))
	for i := range a {
		differ[i] = a[i].Known && b[i].Known &&
			(event.Compare(a[i].N-x.Most, denA, b[i].N, denB) > 0 || event.Compare(a[i].N+x.Most, denA, b[i].N, denB) < 0)
	}
	return differ
}

// stretches returns from where to where a list is true, as far as it goes on.
func stretches(l []bool) []api.Extent {
	var s []api.Extent
	for i, is := range l {
		switch {
		case !is:
		case i > 0 && l[i-1]:
			s[len(s)-1].To = i
		default:
			s = append(s, api.Extent{From: i, To: i})
		}
	}
	return s
}

// vote returns a sample for what three tracks are, but without its time.
func vote(x [voters]api.Told, most int) api.Sample {
	l := numbers(x)
	switch {
	case len(l) == voters:
		return api.Sample{N: l[1], Mark: api.MarkGood}
	case len(l) == voters-1 && l[1]-l[0] <= most:
		return api.Sample{N: l[0], Mark: api.MarkGood}
	}
	return api.Sample{Mark: api.MarkLost}
}

// loser returns which of three is outvoted, or -1: it alone is far from the middle one.
func loser(x [voters]api.Told, most int) int {
	l := numbers(x)
	if len(l) < voters {
		return -1
	}
	low, high := l[1]-l[0] > most, l[2]-l[1] > most
	switch {
	case low && !high:
		return slices.Index(x[:], api.Told{N: l[0], Known: true})
	case high && !low:
		return slices.Index(x[:], api.Told{N: l[2], Known: true})
	}
	return -1
}

// numbers returns what is known, sorted.
func numbers(x [voters]api.Told) []int {
	var l []int
	for _, told := range x {
		if told.Known {
			l = append(l, told.N)
		}
	}
	slices.Sort(l)
	return l
}
