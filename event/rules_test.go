package event_test

import (
	"fmt"
	"slices"
	"testing"

	"orangebox/api"
	"orangebox/event"
)

// flying has three phases, two moves and three rules.
func flying() api.Rules {
	return api.Rules{
		Phases: []string{"ground", "climb", "level"},
		Moves: []api.Move{
			{From: "ground", To: "climb", When: number("alt", api.Greater, 10)},
			{From: "climb", To: "level", When: steady("alt", 5, 8)},
		},
		Rules: []api.Rule{
			{Name: "high", When: number("alt", api.Greater, 100)},
			{Name: "fast", When: tracksAre("speed", api.Greater, "limit")},
			{Name: "both", When: both(ofRule("high"), ofRule("fast"), not(inPhase("ground")))},
		},
	}
}

// full has as many phases, moves and rules as there can be.
func full() api.Rules {
	r := api.Rules{Phases: numbered("p", event.MaxPhases)}
	for i := range event.MaxMoves {
		r.Moves = append(r.Moves, api.Move{From: r.Phases[i%event.MaxPhases], To: r.Phases[i*7%event.MaxPhases], When: over()})
	}
	for _, name := range numbered("r", event.MaxRules) {
		r.Rules = append(r.Rules, api.Rule{Name: name, When: over()})
	}
	return r
}

// wrongRules has rules with errors.
func wrongRules() map[string]struct {
	rules api.Rules
	want  api.Errno
} {
	type row = struct {
		rules api.Rules
		want  api.Errno
	}
	with := func(change func(r *api.Rules)) api.Rules {
		r := flying()
		change(&r)
		return r
	}
	move := func(from, to string, c api.Cond) api.Rules {
		return with(func(r *api.Rules) { r.Moves = append(r.Moves, api.Move{From: from, To: to, When: c}) })
	}
	rule := func(name string, c api.Cond) api.Rules {
		return with(func(r *api.Rules) { r.Rules = append(r.Rules, api.Rule{Name: name, When: c}) })
	}
	long := func(change func(r *api.Rules)) api.Rules {
		r := full()
		change(&r)
		return r
	}
	return map[string]row{
		"too many phases":             {long(func(r *api.Rules) { r.Phases = append(r.Phases, "q") }), api.ErrSize},
		"too many moves":              {long(func(r *api.Rules) { r.Moves = append(r.Moves, r.Moves[0]) }), api.ErrSize},
		"too many rules":              {long(func(r *api.Rules) { r.Rules = append(r.Rules, api.Rule{Name: "q", When: over()}) }), api.ErrSize},
		"too many rules, and no name": {long(func(r *api.Rules) { r.Phases[0], r.Rules = "", append(r.Rules, r.Rules[0]) }), api.ErrSize},
		"an empty phase":              {with(func(r *api.Rules) { r.Phases[1] = "" }), api.ErrName},
		"a phase that is a word":      {with(func(r *api.Rules) { r.Phases[1] = "since" }), api.ErrName},
		"a phase that is there twice": {with(func(r *api.Rules) { r.Phases[2] = "ground" }), api.ErrTwice},
		"a phase twice, then no name": {with(func(r *api.Rules) { r.Phases = append(r.Phases, "climb", "") }), api.ErrTwice},
		"no name, then twice":         {with(func(r *api.Rules) { r.Phases = append(r.Phases, "?", "climb") }), api.ErrName},
		"a phase, then a move":        {with(func(r *api.Rules) { r.Phases[0] = "GROUND" }), api.ErrName},
		"from no phase":               {move("air", "climb", over()), api.ErrNone},
		"to no phase":                 {move("climb", "air", over()), api.ErrNone},
		"to the name of a rule":       {move("climb", "high", over()), api.ErrNone},
		"from nothing":                {move("", "climb", over()), api.ErrNone},
		"to no phase, then cond":      {move("climb", "air", api.Cond{}), api.ErrNone},
		"a move with no cond":         {move("climb", "ground", api.Cond{}), api.ErrKind},
		"a move with a wrong cond":    {move("climb", "ground", not(inAll(0, over()))), api.ErrRange},
		"a move with a phase":         {move("climb", "ground", inPhase("climb")), api.ErrForm},
		"a move with a phase inside":  {move("climb", "ground", not(both(over(), inPhase("?x")))), api.ErrName},
		"a move with a rule":          {move("climb", "ground", rises(ofRule("high"))), api.ErrForm},
		"a move with a rule, wrong":   {move("climb", "ground", either(ofRule("high"), steady("x", 0, 0))), api.ErrRange},
		"moves without phases":        {api.Rules{Moves: []api.Move{{When: over()}}}, api.ErrNone},
		"a move, then a rule":         {with(func(r *api.Rules) { r.Moves[1].To, r.Rules[0].Name = "x", "" }), api.ErrNone},
		"an earlier move first":       {with(func(r *api.Rules) { r.Moves[0].When, r.Moves[1].To = ofRule("high"), "x" }), api.ErrForm},
		"a rule without a name":       {rule("", over()), api.ErrName},
		"a rule that is a word":       {rule("of", over()), api.ErrName},
		"a rule that is there twice":  {rule("high", over()), api.ErrTwice},
		"twice, then cond":            {rule("fast", api.Cond{}), api.ErrTwice},
		"name, then cond":             {rule("if", api.Cond{}), api.ErrName},
		"a rule with no cond":         {rule("x", api.Cond{}), api.ErrKind},
		"a rule with a wrong cond":    {rule("x", not(within(0, over()))), api.ErrRange},
		"a rule with no phase":        {rule("x", not(inPhase("air"))), api.ErrNone},
		"a rule with itself":          {rule("x", not(ofRule("x"))), api.ErrNone},
		"a rule with no rule":         {rule("x", since(over(), ofRule("slow"))), api.ErrNone},
		"a rule with a phase as rule": {rule("x", ofRule("climb")), api.ErrNone},
		"a rule with a rule as phase": {rule("x", inPhase("high")), api.ErrNone},
		"a rule with a later rule":    {with(func(r *api.Rules) { r.Rules[0].When = ofRule("fast") }), api.ErrNone},
		"cond, then no phase":         {rule("x", both(inPhase("air"), inAll(0, over()))), api.ErrRange},
		"no rule, then the next one":  {with(func(r *api.Rules) { r.Rules[0].When, r.Rules[1].Name = ofRule("x"), "" }), api.ErrNone},
		"a rule with a circle":        {rule("x", circular(2)), api.ErrSize},
		"a move with a circle":        {move("climb", "ground", circular(3)), api.ErrSize},
		"a rule with 21 levels":       {rule("x", nested(event.MaxLevels+1)), api.ErrSize},
	}
}

// F2: rules without errors.
func TestCheck(t *testing.T) {
	for name, r := range map[string]api.Rules{
		"nothing":                          {},
		"empty lists":                      {Phases: []string{}, Moves: []api.Move{}, Rules: []api.Rule{}},
		"flying":                           flying(),
		"full":                             full(),
		"phases alone":                     {Phases: []string{"a", "b"}},
		"a phase, a track and a rule":      {Phases: []string{"r"}, Rules: []api.Rule{{Name: "r", When: both(inPhase("r"), number("r", 1, 1))}}},
		"a move to the phase itself":       {Phases: []string{"a"}, Moves: []api.Move{{From: "a", To: "a", When: over()}, {From: "a", To: "a", When: over()}}},
		"tracks of all names":              ruled(both(tracksAre("a", 1, "b"), steady("c", 1, 1), number("d", 1, 1))),
		"MaxLevels and MaxNodes in a rule": ruled(either(wide(event.MaxNodes-event.MaxLevels), nested(event.MaxLevels-1))),
	} {
		wantErrno(t, name, event.Check(r), api.OK)
	}
	for _, name := range rightNames() {
		wantErrno(t, name, event.Check(api.Rules{Phases: []string{name}, Rules: []api.Rule{{Name: name, When: inPhase(name)}}}), api.OK)
	}
}

// F2: what is wrong with rules, in the order of the document; and all functions with rules say so.
func TestCheckErrors(t *testing.T) {
	bad := []api.Track{{}}
	for name, c := range wrongRules() {
		wantErrno(t, "Check: "+name, event.Check(c.rules), c.want)
		wantWrong(t, "Tracks: "+name, results(event.Tracks(c.rules)), c.want)
		wantWrong(t, "Depths: "+name, results(event.Depths(c.rules)), c.want)
		wantWrong(t, "Evaluate: "+name, results(event.Evaluate(c.rules, bad, -1, -2)), c.want)
		wantWrong(t, "Phases: "+name, results(event.Phases(c.rules, bad, -1, -2)), c.want)
		wantWrong(t, "Events: "+name, results(event.Events(c.rules, bad, -1, -2)), c.want)
		wantWrong(t, "Slower: "+name, results(event.Slower(c.rules, 0)), c.want)
		wantWrong(t, "Merge of: "+name, results(event.Merge(c.rules, api.Rules{Phases: []string{""}})), c.want)
		wantWrong(t, "Merge with: "+name, results(event.Merge(flying(), c.rules)), c.want)
		wantWrong(t, "Print: "+name, results(event.Print(c.rules)), c.want)
		wantWrong(t, "New: "+name, results(event.New(c.rules, bad)), c.want)
	}
	for _, name := range wrongNames() {
		wantErrno(t, name, event.Check(api.Rules{Phases: []string{name}}), api.ErrName)
		wantErrno(t, name, event.Check(api.Rules{Rules: []api.Rule{{Name: name, When: over()}}}), api.ErrName)
	}
}

func tracksOf(t *testing.T, r api.Rules) []string {
	t.Helper()
	names, e := event.Tracks(r)
	wantErrno(t, "Tracks", e, api.OK)
	return names
}

// F2: of moves and of rules, in order, each once.
func TestTracks(t *testing.T) {
	wantSame(t, "none", tracksOf(t, api.Rules{}), []string{})
	wantSame(t, "none in a rule", tracksOf(t, ruled(not(always()))), []string{})
	wantSame(t, "flying", tracksOf(t, flying()), []string{"alt", "limit", "speed"})
	wantSame(t, "neither phases nor rules", tracksOf(t, ruledBy(t, "phase p rule q if true rule r if phase p or rule q")), []string{})
	wantSame(t, "by bytes", tracksOf(t, ruledBy(t, "rule r if b > a or a10 < 1 or steady a9 1 1 or a-z = 0 or since b > b not rises c != 5")), []string{"a", "a-z", "a10", "a9", "b", "c"})
	wantSame(t, "of a move", tracksOf(t, ruledBy(t, "phase p move p p if for 2 z < y rule r if steady x 1 1")), []string{"x", "y", "z"})
}

func depthsOf(t *testing.T, r api.Rules) []int {
	t.Helper()
	depths, e := event.Depths(r)
	wantErrno(t, "Depths", e, api.OK)
	return depths
}

// F2: how many frames decide each rule.
func TestDepths(t *testing.T) {
	wantSame(t, "none", depthsOf(t, api.Rules{Phases: []string{"p"}}), []int{})
	for text, want := range map[string]int{
		"true":                                1,
		"false":                               1,
		"x > 1":                               1,
		"x > y":                               1,
		"steady x 5 7":                        7,
		"steady x 5 1":                        1,
		"phase p":                             -1,
		"not x > 1":                           1,
		"not steady x 1 9":                    9,
		"x > 1 and steady x 5 7 and x < 2":    7,
		"steady x 5 7 or x > 1":               7,
		"for 5 true":                          5,
		"for 1 true":                          1,
		"within 5 steady x 1 3":               7,
		"count 2 of 5 rises x > 1":            6,
		"rises x > 1":                         2,
		"rises rises x > 1":                   3,
		"rises for 4096 within 4096 x > 1":    8192,
		"since x > 1 x > 2":                   -1,
		"not since x > 1 x > 2":               -1,
		"x > 1 or phase p or steady x 1 9":    -1,
		"x > 1 and (phase p or steady x 1 9)": -1,
		"for 5 phase p":                       -1,
		"within 5 phase p":                    -1,
		"count 5 of 5 not phase p":            -1,
		"rises since true true":               -1,
		"for 3 within 4 count 1 of 5 steady x 1 6":  3 + 4 + 5 + 6 - 3,
		"(for 3 x > 1 or x < 2) and within 2 x > 1": 3,
	} {
		wantSame(t, text, depthsOf(t, ruledBy(t, "phase p rule r if "+text)), []int{want})
	}
	r := ruledBy(t, "phase p rule a if for 5 x > 1 rule b if rises rule a rule c if phase p rule d if rule c and rule a rule e if rule a or rule b rule f if within 3 rule e rule g if for 2 rule d")
	wantSame(t, "rules of rules", depthsOf(t, r), []int{5, 6, -1, -1, 6, 8, -1})
	long := api.Rules{}
	for i, name := range numbered("r", event.MaxRules) {
		c := over()
		if i > 0 {
			c = ofRule(long.Rules[i-1].Name)
		}
		for range event.MaxLevels - 1 {
			c = inAll(event.MaxFrames, c)
		}
		long.Rules = append(long.Rules, api.Rule{Name: name, When: c})
	}
	wantSame(t, "the greatest one", depthsOf(t, long)[event.MaxRules-1], 1+event.MaxRules*(event.MaxLevels-1)*(event.MaxFrames-1))
}

// F2: so many frames decide a rule: what was before them does not matter.
func TestDepthsDecide(t *testing.T) {
	r := dice(1)
	for range 400 {
		g := grower{r: r, tracks: []string{"a", "b", "c"}, frames: 3}
		rules := api.Rules{Rules: []api.Rule{{Name: "r0", When: g.cond(4)}}}
		g.rules = []string{"r0"}
		rules.Rules = append(rules.Rules, api.Rule{Name: "r1", When: g.cond(4)})
		tracks := someTracks(r, 0, 20)
		whole := truthsOf(t, rules, tracks, 0, 19)
		for i, depth := range depthsOf(t, rules) {
			for from := 0; depth > 0 && from+depth <= 20; from++ {
				part := truthsOf(t, rules, tracks, from, from+depth-1)
				wantSame(t, fmt.Sprint("the last truth of ", rules.Rules[i]), part[i][depth-1], whole[i][from+depth-1])
			}
		}
	}
}

func slowerBy(t *testing.T, r api.Rules, k int) api.Rules {
	t.Helper()
	s, e := event.Slower(r, k)
	wantErrno(t, "Slower", e, api.OK)
	return s
}

// F5: all Frames, and N of CondCount alone.
func TestSlower(t *testing.T) {
	text := func(frames ...int) string {
		return fmt.Sprintf("phase p phase q move p q if for %d steady x 9 %d rule a if within %d count %d of %d x > 9 rule b if not (since rises rule a (x = 7 or count %d of %d phase q)) and for %d x < y",
			frames[0], frames[1], frames[2], frames[3], frames[4], frames[5], frames[6], frames[7])
	}
	r := ruledBy(t, text(1, 2, 3, 4, 5, 64, 65, 4096))
	for k, want := range map[int][]int{
		1:  {1, 2, 3, 4, 5, 64, 65, 4096},
		2:  {1, 1, 2, 2, 3, 32, 33, 2048},
		3:  {1, 1, 1, 2, 2, 22, 22, 1366},
		4:  {1, 1, 1, 1, 2, 16, 17, 1024},
		5:  {1, 1, 1, 1, 1, 13, 13, 820},
		63: {1, 1, 1, 1, 1, 2, 2, 66},
		64: {1, 1, 1, 1, 1, 1, 2, 64},
	} {
		s := slowerBy(t, r, k)
		wantSame(t, fmt.Sprint("Slower by ", k), s, ruledBy(t, text(want...)))
		wantErrno(t, "Check", event.Check(s), api.OK)
	}
	wantSame(t, "Slower of nothing", slowerBy(t, api.Rules{}, 64), api.Rules{})
	for _, k := range append(beyond(), -1, 0, 65) {
		wantWrong(t, fmt.Sprint("Slower by ", k), results(event.Slower(r, k)), api.ErrRange)
	}
}

func merged(t *testing.T, a, b api.Rules) api.Rules {
	t.Helper()
	r, e := event.Merge(a, b)
	wantErrno(t, "Merge", e, api.OK)
	return r
}

// F5: phases once, everything else behind what is there.
func TestMerge(t *testing.T) {
	a := ruledBy(t, "phase p phase q move p q if x > 1 move q p if x < 1 rule a if phase q rule b if rule a")
	b := ruledBy(t, "phase q phase s phase p move s q if y > 1 move p q if x > 1 rule c if phase s rule d if rule c and phase p")
	wantSame(t, "both", merged(t, a, b), ruledBy(t, `
		phase p phase q phase s
		move p q if x > 1 move q p if x < 1 move s q if y > 1 move p q if x > 1
		rule a if phase q rule b if rule a rule c if phase s rule d if rule c and phase p`))
	wantSame(t, "the other way round", merged(t, b, a), ruledBy(t, `
		phase q phase s phase p
		move s q if y > 1 move p q if x > 1 move p q if x > 1 move q p if x < 1
		rule c if phase s rule d if rule c and phase p rule a if phase q rule b if rule a`))
	wantSame(t, "with nothing", merged(t, a, api.Rules{}), a)
	wantSame(t, "of nothing", merged(t, api.Rules{}, a), a)
	wantSame(t, "of nothing at all", merged(t, api.Rules{}, api.Rules{}), api.Rules{})
}

// F5: what is wrong with the result.
func TestMergeErrors(t *testing.T) {
	a := flying()
	wantWrong(t, "a rule in both", results(event.Merge(a, ruledBy(t, "rule x if true rule fast if true"))), api.ErrTwice)
	wantWrong(t, "all rules in both", results(event.Merge(a, a)), api.ErrTwice)
	most := full()
	wantSame(t, "phases and moves that are all there", len(merged(t, most, api.Rules{Phases: most.Phases}).Phases), event.MaxPhases)
	wantWrong(t, "too many phases", results(event.Merge(most, api.Rules{Phases: []string{"q"}})), api.ErrSize)
	wantWrong(t, "too many rules", results(event.Merge(most, ruled(over()))), api.ErrSize)
	wantWrong(t, "too many rules, and twice", results(event.Merge(most, most)), api.ErrSize)
	wantWrong(t, "too many moves", results(event.Merge(most, api.Rules{Phases: []string{"p0"}, Moves: most.Moves[:1]})), api.ErrSize)
	half := api.Rules{Phases: numbered("p", 10), Rules: most.Rules[:30]}
	further := api.Rules{Phases: slices.Concat(numbered("p", 10), numbered("q", 10)), Rules: most.Rules[30:]}
	r := merged(t, half, further)
	wantSame(t, "as many as there can be", []int{len(r.Phases), len(r.Rules)}, []int{20, 60})
}
