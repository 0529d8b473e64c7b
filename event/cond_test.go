package event_test

import (
	"fmt"
	"slices"
	"strings"
	"testing"

	"orangebox/api"
	"orangebox/event"
	"orangebox/series"
)

// oneOfEach has a condition of each kind.
func oneOfEach() []api.Cond {
	return []api.Cond{
		always(), never(), number("x", api.Equal, -5), tracksAre("x", api.Less, "y"), steady("x", 5, 9), inPhase("p"), ofRule("q"),
		not(over()), both(over(), over()), either(over(), over()), inAll(3, over()), within(3, over()), countOf(2, 3, over()), since(over(), over()), rises(over()),
	}
}

func wantCond(t *testing.T, name string, c api.Cond, want api.Errno) {
	t.Helper()
	wantErrno(t, "CheckCond of "+name, event.CheckCond(c), want)
}

// F1: conditions at their limits.
func TestCheckCond(t *testing.T) {
	for i, c := range oneOfEach() {
		wantSame(t, "kind", c.Kind, i+1)
		wantCond(t, fmt.Sprint("kind ", i+1), c, api.OK)
		c.Kids = append([]api.Cond{}, c.Kids...)
		wantCond(t, fmt.Sprint("kind ", i+1, " with an empty list"), c, api.OK)
		wantCond(t, fmt.Sprint("kind ", i+1, " in others"), both(never(), not(c)), api.OK)
	}
	for name, c := range map[string]api.Cond{
		"the least N":          number("x", api.Greater, -series.MaxN),
		"the greatest N":       number("x", api.Greater, series.MaxN),
		"the same track":       tracksAre("x", api.Differs, "x"),
		"steady by nothing":    steady("x", 0, 1),
		"steady by all":        steady("x", series.MaxN, event.MaxFrames),
		"for 1":                inAll(1, over()),
		"for MaxFrames":        inAll(event.MaxFrames, over()),
		"within 1":             within(1, over()),
		"within MaxFrames":     within(event.MaxFrames, over()),
		"count 1 of 1":         countOf(1, 1, over()),
		"count 1 of MaxFrames": countOf(1, event.MaxFrames, over()),
		"count all":            countOf(event.MaxFrames, event.MaxFrames, over()),
		"MaxLevels":            nested(event.MaxLevels),
		"MaxNodes":             wide(event.MaxNodes),
	} {
		wantCond(t, name, c, api.OK)
	}
	for op := api.Less; op <= api.Greater; op++ {
		wantCond(t, "an Op", number("x", op, 0), api.OK)
		wantCond(t, "an Op", tracksAre("x", op, "y"), api.OK)
	}
	for _, name := range rightNames() {
		wantCond(t, name, number(name, api.Equal, 0), api.OK)
		wantCond(t, name, tracksAre("x", api.Equal, name), api.OK)
	}
}

// F1: each field that a kind does not name, and each number of kids.
func TestCheckCondForm(t *testing.T) {
	change := map[string]func(c *api.Cond){
		"Name":   func(c *api.Cond) { c.Name = "x" },
		"Other":  func(c *api.Cond) { c.Other = "x" },
		"Op":     func(c *api.Cond) { c.Op = api.Less },
		"N":      func(c *api.Cond) { c.N = 1 },
		"Frames": func(c *api.Cond) { c.Frames = 1 },
	}
	used := map[int]string{
		api.CondNumber: "Name Op N", api.CondTracks: "Name Op Other", api.CondSteady: "Name N Frames", api.CondPhase: "Name", api.CondRule: "Name",
		api.CondFor: "Frames", api.CondWithin: "Frames", api.CondCount: "N Frames",
	}
	for _, c := range oneOfEach() {
		for field, set := range change {
			x := c
			set(&x)
			want := api.ErrForm
			if slices.Contains(strings.Fields(used[c.Kind]), field) {
				want = api.OK
			}
			if c.Kind == api.CondCount && field == "Frames" {
				want = api.ErrRange // N is 2
			}
			wantCond(t, fmt.Sprint(field, " of kind ", c.Kind), x, want)
		}
		for kids := range 5 {
			x := c
			x.Kids = slices.Repeat([]api.Cond{over()}, kids)
			want := api.ErrForm
			if kids == len(c.Kids) || kids > 2 && (c.Kind == api.CondAnd || c.Kind == api.CondOr) {
				want = api.OK
			}
			wantCond(t, fmt.Sprint(kids, " kids of kind ", c.Kind), x, want)
		}
	}
	for _, b := range append(beyond(), -1) {
		x := always()
		x.N = b
		wantCond(t, "N of true", x, api.ErrForm)
		x = never()
		x.Frames = b
		wantCond(t, "Frames of false", x, api.ErrForm)
		x = steady("x", 1, 1)
		x.Op = b
		wantCond(t, "Op of steady", x, api.ErrForm)
	}
}

// F1: what is wrong with one condition, in the order of the document.
func TestCheckCondErrors(t *testing.T) {
	for name, c := range map[string]struct {
		cond api.Cond
		want api.Errno
	}{
		"zero":                        {api.Cond{}, api.ErrKind},
		"kind 16":                     {api.Cond{Kind: 16}, api.ErrKind},
		"kind -1":                     {api.Cond{Kind: -1}, api.ErrKind},
		"kind, then form":             {api.Cond{Kind: 16, Name: "?", N: -1}, api.ErrKind},
		"form, then name":             {api.Cond{Kind: api.CondNumber, Op: 1, Frames: 1}, api.ErrForm},
		"form of kids, then name":     {api.Cond{Kind: api.CondPhase, Kids: []api.Cond{over()}}, api.ErrForm},
		"no Name":                     {number("", api.Less, 0), api.ErrName},
		"no Other":                    {tracksAre("x", api.Less, ""), api.ErrName},
		"no Name, but Other":          {tracksAre("", api.Less, "x"), api.ErrName},
		"name, then op":               {number("", 9, 0), api.ErrName},
		"other, then op":              {tracksAre("x", 9, "?"), api.ErrName},
		"op 0":                        {number("x", 0, 0), api.ErrKind},
		"op 7":                        {number("x", 7, 0), api.ErrKind},
		"op -1":                       {tracksAre("x", -1, "y"), api.ErrKind},
		"op 7 of tracks":              {tracksAre("x", 7, "y"), api.ErrKind},
		"op, then range":              {number("x", 7, series.MaxN+1), api.ErrKind},
		"N above":                     {number("x", 1, series.MaxN+1), api.ErrRange},
		"N below":                     {number("x", 1, -series.MaxN-1), api.ErrRange},
		"name, then Frames":           {steady("", 1, 0), api.ErrName},
		"Frames 0 of steady":          {steady("x", 1, 0), api.ErrRange},
		"Frames -1 of steady":         {steady("x", 1, -1), api.ErrRange},
		"Frames above of steady":      {steady("x", 1, event.MaxFrames+1), api.ErrRange},
		"N above of steady":           {steady("x", series.MaxN+1, 1), api.ErrRange},
		"N -1 of steady":              {steady("x", -1, 1), api.ErrRange},
		"N below of steady":           {steady("x", -series.MaxN-1, 1), api.ErrRange},
		"for 0":                       {inAll(0, over()), api.ErrRange},
		"for -1":                      {inAll(-1, over()), api.ErrRange},
		"for more than MaxFrames":     {inAll(event.MaxFrames+1, over()), api.ErrRange},
		"within 0":                    {within(0, over()), api.ErrRange},
		"within more than MaxFrames":  {within(event.MaxFrames+1, over()), api.ErrRange},
		"count 0":                     {countOf(0, 3, over()), api.ErrRange},
		"count -1":                    {countOf(-1, 3, over()), api.ErrRange},
		"count 4 of 3":                {countOf(4, 3, over()), api.ErrRange},
		"count 0 of 0":                {countOf(0, 0, over()), api.ErrRange},
		"count 1 of 0":                {countOf(1, 0, over()), api.ErrRange},
		"count of more":               {countOf(1, event.MaxFrames+1, over()), api.ErrRange},
		"too many levels":             {nested(event.MaxLevels + 1), api.ErrSize},
		"too many conditions":         {wide(event.MaxNodes + 1), api.ErrSize},
		"far too many":                {wide(100000), api.ErrSize},
		"levels, then kind":           {api.Cond{Kids: []api.Cond{nested(event.MaxLevels)}}, api.ErrSize},
		"conditions, then kind":       {both(api.Cond{}, wide(event.MaxNodes-2)), api.ErrKind},
		"conditions above, then kind": {both(api.Cond{}, wide(event.MaxNodes-1)), api.ErrSize},
		"kid first":                   {both(inAll(0, over()), api.Cond{}), api.ErrRange},
		"kid of a kid first":          {both(not(number("", 1, 0)), api.Cond{}), api.ErrName},
		"second kid":                  {since(over(), steady("x", -1, 1)), api.ErrRange},
		"parent, then kid":            {inAll(0, api.Cond{}), api.ErrRange},
		"form of a parent, then kid":  {api.Cond{Kind: api.CondNot, Kids: []api.Cond{{}, {}}}, api.ErrForm},
		"deep":                        {not(not(either(over(), rises(within(2, never())), inAll(3, number("not", 1, 1))))), api.ErrName},
	} {
		wantCond(t, name, c.cond, c.want)
	}
	for _, name := range wrongNames() {
		wantCond(t, name, number(name, 1, 1), api.ErrName)
		wantCond(t, name, tracksAre(name, 1, "x"), api.ErrName)
		wantCond(t, name, tracksAre("x", 1, name), api.ErrName)
		wantCond(t, name, steady(name, 1, 1), api.ErrName)
		wantCond(t, name, inPhase(name), api.ErrName)
		wantCond(t, name, not(ofRule(name)), api.ErrName)
	}
	for _, b := range beyond() {
		for _, c := range []api.Cond{{Kind: b}, number("x", b, 0), tracksAre("x", b, "y")} {
			wantCond(t, fmt.Sprint("kind ", b), c, api.ErrKind)
		}
		for _, c := range []api.Cond{number("x", 1, b), steady("x", b, 1), steady("x", 1, b), inAll(b, over()), within(b, over()), countOf(b, 5, over()), countOf(1, b, over()), countOf(b, b, over())} {
			wantCond(t, fmt.Sprint("number ", b), c, api.ErrRange)
		}
	}
}

// Z1: conditions that have themselves as kids, or the same ones very often.
func TestCheckCondEnds(t *testing.T) {
	for _, kids := range []int{1, 2, 300} {
		wantCond(t, "a circle", circular(kids), api.ErrSize)
		wantCond(t, "a circle in another one", not(circular(kids)), api.ErrSize)
	}
	c := over()
	for range 19 {
		c = both(c, c) // 2^20 conditions, of which few are in memory
	}
	wantCond(t, "doubled", c, api.ErrSize)
	c = over()
	for range 6 {
		c = either(c, c)
	}
	wantCond(t, "127 conditions", c, api.OK)
	wantCond(t, "200 conditions", either(c, wide(71), never()), api.OK)
	wantCond(t, "201 conditions", either(c, wide(72), never()), api.ErrSize)
}
