package event_test

import (
	"math"
	"math/rand/v2"
	"reflect"
	"strconv"
	"strings"
	"testing"

	"orangebox/api"
	"orangebox/event"
)

// dice gives the same numbers in each run.
func dice(seed uint64) *rand.Rand {
	return rand.New(rand.NewPCG(seed, 6))
}

func pick[T any](r *rand.Rand, l ...T) T {
	return l[r.IntN(len(l))]
}

// beyond has numbers that are in no range of the document.
func beyond() []int {
	return []int{math.MinInt, math.MinInt + 1, -1<<62 - 1, -1<<50 - 1, 1<<50 + 1, 1<<62 + 1, math.MaxInt - 1, math.MaxInt}
}

func words() []string {
	return strings.Fields("phase move rule if or and true false steady not for within count of rises since")
}

// wrongNames has texts that are no names.
func wrongNames() []string {
	return append(words(), "", strings.Repeat("a", 31), "A", "aB", "1", "1a", "-", "-a", "a b", "a ", " a", "a_b", "a.b", "a\x00", "a\n", "\u00e4", "a\u00e4", "\xff", "`", "{", "a/", "a:", "a{", "a`")
}

// rightNames has names, among them some that are nearly words.
func rightNames() []string {
	return []string{"a", "z", "a0", "a9", "a-", "a--b", strings.Repeat("z", 30), "a-1-", "phases", "mov", "iff", "i", "orr", "o", "true-", "not1", "since-1", "counts", "ofof", "steady0"}
}

func wantErrno(t *testing.T, name string, got, want api.Errno) {
	t.Helper()
	if got != want {
		t.Errorf("%s: error %d, want %d", name, got, want)
	}
}

// wantSame takes an empty list for nil.
func wantSame(t *testing.T, name string, got, want any) {
	t.Helper()
	g, w := reflect.ValueOf(got), reflect.ValueOf(want)
	if g.Kind() == reflect.Slice && w.Kind() == reflect.Slice && g.Len() == 0 && w.Len() == 0 {
		return
	}
	if !reflect.DeepEqual(got, want) {
		t.Errorf("%s: got %v, want %v", name, got, want)
	}
}

// wantNothing wants zero values, or empty lists.
func wantNothing(t *testing.T, name string, results ...any) {
	t.Helper()
	for _, r := range results {
		v := reflect.ValueOf(r)
		if !v.IsZero() && (v.Kind() != reflect.Slice || v.Len() > 0) {
			t.Errorf("%s: got %v, want nothing", name, r)
		}
	}
}

// results makes a list of what a function returns.
func results(l ...any) []any {
	return l
}

// wantWrong wants an error behind results that are nothing.
func wantWrong(t *testing.T, name string, l []any, want api.Errno) {
	t.Helper()
	last := len(l) - 1
	wantErrno(t, name, l[last].(api.Errno), want)
	wantNothing(t, name, l[:last]...)
}

// Conditions.

func always() api.Cond              { return api.Cond{Kind: api.CondTrue} }
func never() api.Cond               { return api.Cond{Kind: api.CondFalse} }
func inPhase(name string) api.Cond  { return api.Cond{Kind: api.CondPhase, Name: name} }
func ofRule(name string) api.Cond   { return api.Cond{Kind: api.CondRule, Name: name} }
func not(c api.Cond) api.Cond       { return api.Cond{Kind: api.CondNot, Kids: []api.Cond{c}} }
func both(l ...api.Cond) api.Cond   { return api.Cond{Kind: api.CondAnd, Kids: l} }
func either(l ...api.Cond) api.Cond { return api.Cond{Kind: api.CondOr, Kids: l} }
func rises(c api.Cond) api.Cond     { return api.Cond{Kind: api.CondRises, Kids: []api.Cond{c}} }
func since(first, b api.Cond) api.Cond {
	return api.Cond{Kind: api.CondSince, Kids: []api.Cond{first, b}}
}
func inAll(frames int, c api.Cond) api.Cond {
	return api.Cond{Kind: api.CondFor, Frames: frames, Kids: []api.Cond{c}}
}

func within(frames int, c api.Cond) api.Cond {
	return api.Cond{Kind: api.CondWithin, Frames: frames, Kids: []api.Cond{c}}
}

func countOf(n, frames int, c api.Cond) api.Cond {
	return api.Cond{Kind: api.CondCount, N: n, Frames: frames, Kids: []api.Cond{c}}
}

func number(name string, op, n int) api.Cond {
	return api.Cond{Kind: api.CondNumber, Name: name, Op: op, N: n}
}

func tracksAre(name string, op int, other string) api.Cond {
	return api.Cond{Kind: api.CondTracks, Name: name, Op: op, Other: other}
}

func steady(name string, n, frames int) api.Cond {
	return api.Cond{Kind: api.CondSteady, Name: name, N: n, Frames: frames}
}

// over is true if x is above 0.
func over() api.Cond {
	return number("x", api.Greater, 0)
}

// nested has so many levels.
func nested(levels int) api.Cond {
	c := always()
	for range levels - 1 {
		c = not(c)
	}
	return c
}

// wide has so many conditions, with itself, in two levels.
func wide(nodes int) api.Cond {
	kids := make([]api.Cond, nodes-1)
	for i := range kids {
		kids[i] = over()
	}
	return either(kids...)
}

// circular has itself as a kid.
func circular(kids int) api.Cond {
	c := api.Cond{Kind: api.CondAnd, Kids: make([]api.Cond, kids)}
	for i := range c.Kids {
		c.Kids[i] = c
	}
	return c
}

// ruled is rules of one rule r.
func ruled(c api.Cond) api.Rules {
	return api.Rules{Rules: []api.Rule{{Name: "r", When: c}}}
}

// numbered returns names that begin alike.
func numbered(name string, count int) []string {
	l := make([]string, count)
	for i := range l {
		l[i] = name + strconv.Itoa(i)
	}
	return l
}

// Tracks.

func good(at, n int) api.Sample { return api.Sample{At: at, N: n, Mark: api.MarkGood} }
func lost(at int) api.Sample    { return api.Sample{At: at} }

func track(name string, den, long int, l ...api.Sample) api.Track {
	return api.Track{Name: name, Series: api.Series{Den: den, Samples: l}, Long: long}
}

// unknown is what a track is that is not known; it is no number of any test.
const unknown = math.MinInt

func told(l ...int) []api.Told {
	x := make([]api.Told, len(l))
	for i, n := range l {
		if n != unknown {
			x[i] = api.Told{N: n, Known: true}
		}
	}
	return x
}

// framed is a track that has these numbers in the frames from one on.
func framed(name string, den, first int, numbers ...int) api.Track {
	t := track(name, den, api.Ticks-1)
	for i, n := range numbers {
		x := lost(api.Ticks * (first + i))
		if n != unknown {
			x = good(x.At, n)
		}
		t.Series.Samples = append(t.Series.Samples, x)
	}
	return t
}

// someNumbers returns numbers near 0, of which some are unknown.
func someNumbers(r *rand.Rand, count, most int) []int {
	l := make([]int, count)
	for i := range l {
		l[i] = unknown
		if r.IntN(4) > 0 {
			l[i] = r.IntN(2*most+1) - most
		}
	}
	return l
}

// grower makes conditions by chance.
type grower struct {
	r      *rand.Rand
	tracks []string
	phases []string
	rules  []string // that are there already
	frames int      // at most
}

func (g *grower) leaf() api.Cond {
	name := pick(g.r, g.tracks...)
	switch k := g.r.IntN(12); {
	case k == 0:
		return pick(g.r, always(), never())
	case k <= 2:
		return tracksAre(name, 1+g.r.IntN(6), pick(g.r, g.tracks...))
	case k <= 5:
		return steady(name, g.r.IntN(4), 1+g.r.IntN(g.frames))
	case k <= 6 && len(g.phases) > 0:
		return inPhase(pick(g.r, g.phases...))
	case k <= 7 && len(g.rules) > 0:
		return ofRule(pick(g.r, g.rules...))
	}
	return number(name, 1+g.r.IntN(6), g.r.IntN(7)-3)
}

func (g *grower) cond(levels int) api.Cond {
	if levels <= 1 || g.r.IntN(6) == 0 {
		return g.leaf()
	}
	frames := 1 + g.r.IntN(g.frames)
	kid := func() api.Cond { return g.cond(levels - 1) }
	switch g.r.IntN(9) {
	case 0:
		return not(kid())
	case 1:
		return both(g.kids(kid)...)
	case 2:
		return either(g.kids(kid)...)
	case 3:
		return inAll(frames, kid())
	case 4:
		return within(frames, kid())
	case 5, 6:
		return countOf(1+g.r.IntN(frames), frames, kid())
	case 7:
		return since(kid(), kid())
	}
	return rises(kid())
}

func (g *grower) kids(kid func() api.Cond) []api.Cond {
	var l []api.Cond
	for range 2 + g.r.IntN(2) {
		l = append(l, kid())
	}
	return l
}

// someRules makes rules about the tracks a, b and c, whose conditions look back for so many frames at most.
func someRules(r *rand.Rand, levels, frames int) api.Rules {
	g := grower{r: r, tracks: []string{"a", "b", "c"}, frames: frames}
	phases := []string{"p", "q", "s", "u"}[:r.IntN(5)]
	x := api.Rules{Phases: append([]string(nil), phases...)}
	for range r.IntN(6) {
		if len(phases) > 0 {
			x.Moves = append(x.Moves, api.Move{From: pick(r, phases...), To: pick(r, phases...), When: g.cond(1 + r.IntN(levels))})
		}
	}
	g.phases = phases
	for _, name := range numbered("r", r.IntN(5)) {
		x.Rules = append(x.Rules, api.Rule{Name: name, When: g.cond(1 + r.IntN(levels))})
		g.rules = append(g.rules, name)
	}
	return x
}

// someTracks makes tracks a, b and c, with numbers in some frames from one on.
func someTracks(r *rand.Rand, first, frames int) []api.Track {
	return []api.Track{
		framed("a", 1, first, someNumbers(r, frames, 3)...),
		framed("b", 2, first, someNumbers(r, frames, 5)...),
		framed("c", 3, first, someNumbers(r, frames, 3)...),
	}
}

func ruledBy(t *testing.T, text string) api.Rules {
	t.Helper()
	r, at, e := event.Read(text)
	if e != api.OK {
		t.Fatalf("Read %q: error %d at %d", text, e, at)
	}
	return r
}
