package panel_test

import (
	"fmt"
	"strings"
	"testing"

	"orangebox/api"
	"orangebox/panel"
)

// zones has so many zones, one behind the other.
func zones(count int) []api.Zone {
	return many(count, func(i int) api.Zone { return api.Zone{From: 10 * i, To: 10*i + 9, Name: "z"} })
}

// H1: instruments without errors, at their limits too.
func TestCheckInstrument(t *testing.T) {
	for i, x := range append(each().Instruments,
		digits("d", 0), digits("d", panel.MaxPlaces), peak("p", 0), peak("p", panel.MaxPlaces),
		dial("d", -most, most, 1), dial("d", -most, -most+1, panel.MaxSteps), dial("d", most-1, most, 1, []api.Zone{}...),
		dial("d", 0, 1, 1, zones(panel.MaxZones)...),
		dial("d", 0, 1, 1, api.Zone{From: -1 << 63, To: -1 << 63, Name: "0"}, api.Zone{From: -1<<63 + 1, To: 1<<63 - 1, Name: "0"}),
		lamp("l", api.Less, -most, true), lamp("l", api.AtMost, most, false), lamp("l", api.Equal, 0, false), lamp("l", api.Differs, 1, true),
		count("c", api.AtLeast, most), count("c", api.Greater, -most), tape("t", 1, 0), tape("t", panel.MaxSize, panel.MaxPlaces),
		with(digits("d", 0), func(i *api.Instrument) { i.Zones = []api.Zone{} }),
		on("?\x00 \xff", digits("d", 0)), on(strings.Repeat("?", 30), digits("d", 0)),
	) {
		wantErrno(t, fmt.Sprint(i, ": ", x), panel.CheckInstrument(x), api.OK)
	}
	for _, name := range rightNames() {
		wantErrno(t, name, panel.CheckInstrument(digits(name, 0)), api.OK)
		wantErrno(t, "a zone "+name, panel.CheckInstrument(dial("d", 0, 1, 1, api.Zone{Name: name})), api.OK)
	}
}

// with is an instrument that is changed.
func with(i api.Instrument, change func(i *api.Instrument)) api.Instrument {
	change(&i)
	return i
}

// H1: each error, ahead of those that are asked for behind it.
func TestCheckInstrumentErrors(t *testing.T) {
	for name, c := range map[string]struct {
		i    api.Instrument
		want api.Errno
	}{
		"no kind":                      {api.Instrument{Name: "A", Places: -1, Low: 1}, api.ErrKind},
		"a kind above all":             {api.Instrument{Kind: 7, Name: "a", Track: "a"}, api.ErrKind},
		"a negative kind":              {api.Instrument{Kind: -1, Name: "a", Track: "a"}, api.ErrKind},
		"no track":                     {on("", digits("d", 0)), api.ErrName},
		"a long track":                 {on(strings.Repeat("a", 31), digits("d", 0)), api.ErrName},
		"no name, then a field":        {with(digits("", 0), func(i *api.Instrument) { i.Size = 1 }), api.ErrName},
		"no track, then a field":       {on("", with(digits("d", 9), func(i *api.Instrument) { i.Size = 1 })), api.ErrName},
		"a field, then Places":         {with(digits("d", -1), func(i *api.Instrument) { i.Size = 1 }), api.ErrForm},
		"a field, then Low":            {with(dial("d", 5, 5, 0), func(i *api.Instrument) { i.N = 1 }), api.ErrForm},
		"a field, then Op":             {with(lamp("l", 0, 0, false), func(i *api.Instrument) { i.Places = 1 }), api.ErrForm},
		"a field, then Size":           {with(tape("t", 0, 0), func(i *api.Instrument) { i.Latch = true }), api.ErrForm},
		"Places below 0":               {digits("d", -1), api.ErrRange},
		"Places above the limit":       {peak("p", panel.MaxPlaces+1), api.ErrRange},
		"Places of a tape":             {tape("t", 1, panel.MaxPlaces+1), api.ErrRange},
		"Low is High":                  {dial("d", 5, 5, 1), api.ErrRange},
		"Low above High":               {dial("d", 6, 5, 1), api.ErrRange},
		"Low below the limit":          {dial("d", -most-1, 5, 1), api.ErrRange},
		"High above the limit":         {dial("d", 0, most+1, 1), api.ErrRange},
		"no steps":                     {dial("d", 0, 5, 0, zones(11)...), api.ErrRange},
		"negative steps":               {dial("d", 0, 5, -1), api.ErrRange},
		"too many steps":               {dial("d", 0, 5, panel.MaxSteps+1), api.ErrRange},
		"too many zones":               {dial("d", 0, 5, 1, make([]api.Zone, panel.MaxZones+1)...), api.ErrSize},
		"zone: name, then range":       {dial("d", 0, 5, 1, api.Zone{From: 2, To: 1}), api.ErrName},
		"zone: From above To":          {dial("d", 0, 5, 1, api.Zone{From: 2, To: 1, Name: "z"}), api.ErrRange},
		"zone: range, then order":      {dial("d", 0, 5, 1, api.Zone{From: 5, To: 9, Name: "z"}, api.Zone{From: 7, To: 6, Name: "z"}), api.ErrRange},
		"zone: at To of the one ahead": {dial("d", 0, 5, 1, api.Zone{From: 5, To: 9, Name: "z"}, api.Zone{From: 9, To: 9, Name: "z"}), api.ErrOrder},
		"zone: ahead of another one":   {dial("d", 0, 5, 1, api.Zone{From: 5, To: 9, Name: "z"}, api.Zone{From: 1, To: 2, Name: "z"}), api.ErrOrder},
		"zone: order, then a name":     {dial("d", 0, 5, 1, api.Zone{To: 9, Name: "z"}, api.Zone{Name: "z"}, api.Zone{}), api.ErrOrder},
		"zone: a name, then order":     {dial("d", 0, 5, 1, api.Zone{To: 9, Name: "z"}, api.Zone{}, api.Zone{Name: "z"}), api.ErrName},
		"a lamp without Op":            {lamp("l", 0, most+1, false), api.ErrKind},
		"a lamp with another Op":       {lamp("l", api.Greater+1, 0, false), api.ErrKind},
		"a count with a negative Op":   {count("c", -1, 0), api.ErrKind},
		"N of a lamp":                  {lamp("l", api.Less, most+1, false), api.ErrRange},
		"N of a count":                 {count("c", api.Less, -most-1), api.ErrRange},
		"no Size":                      {tape("t", 0, 0), api.ErrRange},
		"a negative Size":              {tape("t", -1, 0), api.ErrRange},
		"Size above the limit":         {tape("t", panel.MaxSize+1, 0), api.ErrRange},
	} {
		wantErrno(t, name, panel.CheckInstrument(c.i), c.want)
	}
	for _, name := range wrongNames() {
		wantErrno(t, fmt.Sprintf("the name %q", name), panel.CheckInstrument(digits(name, 0)), api.ErrName)
		wantErrno(t, fmt.Sprintf("the zone %q", name), panel.CheckInstrument(dial("d", 0, 1, 1, api.Zone{Name: name})), api.ErrName)
	}
	for _, b := range beyond() {
		for _, i := range []api.Instrument{digits("d", b), dial("d", b, 5, 5), dial("d", 0, b, 5), dial("d", 0, 5, b), lamp("l", api.Less, b, false), count("c", api.Less, b), peak("p", b), tape("t", b, 0), tape("t", 1, b)} {
			wantErrno(t, fmt.Sprint(i), panel.CheckInstrument(i), api.ErrRange)
		}
		wantErrno(t, fmt.Sprint("the kind ", b), panel.CheckInstrument(api.Instrument{Kind: b}), api.ErrKind)
		wantErrno(t, fmt.Sprint("the Op ", b), panel.CheckInstrument(lamp("l", b, 0, false)), api.ErrKind)
	}
}

// H1: which fields each kind uses.
func TestFields(t *testing.T) {
	type kinds = map[int]bool
	number := kinds{api.ShowDigits: true, api.ShowPeak: true, api.ShowTape: true}
	comparison := kinds{api.ShowLamp: true, api.ShowCount: true}
	for name, c := range map[string]struct {
		set func(i *api.Instrument)
		by  kinds
	}{
		"Places": {func(i *api.Instrument) { i.Places = 1 }, number},
		"Low":    {func(i *api.Instrument) { i.Low = -11 }, kinds{api.ShowDial: true}},
		"High":   {func(i *api.Instrument) { i.High = 91 }, kinds{api.ShowDial: true}},
		"Steps":  {func(i *api.Instrument) { i.Steps = 1 }, kinds{api.ShowDial: true}},
		"Zones":  {func(i *api.Instrument) { i.Zones = zones(1) }, kinds{api.ShowDial: true}},
		"Op":     {func(i *api.Instrument) { i.Op = api.Less }, comparison},
		"N":      {func(i *api.Instrument) { i.N = 1 }, comparison},
		"Latch":  {func(i *api.Instrument) { i.Latch = true }, kinds{api.ShowLamp: true}},
		"Size":   {func(i *api.Instrument) { i.Size = 1 }, kinds{api.ShowTape: true}},
	} {
		for _, i := range each().Instruments {
			want := api.ErrForm
			if c.by[i.Kind] {
				want = api.OK
			}
			wantErrno(t, fmt.Sprint(name, " of the kind ", i.Kind), panel.CheckInstrument(with(i, c.set)), want)
		}
	}
}

// H1
func TestCheck(t *testing.T) {
	wantErrno(t, "nothing", panel.Check(api.Panel{}), api.OK)
	wantErrno(t, "each", panel.Check(each()), api.OK)
	wantErrno(t, "full", panel.Check(numbered(panel.MaxInstruments)), api.OK)
	for name, c := range map[string]struct {
		p    api.Panel
		want api.Errno
	}{
		"too many":            {numbered(panel.MaxInstruments + 1), api.ErrSize},
		"too many of nothing": {panelOf(make([]api.Instrument, panel.MaxInstruments+1)...), api.ErrSize},
		"no kind":             {panelOf(digits("d", 0), api.Instrument{}), api.ErrKind},
		"the same name":       {panelOf(digits("d", 0), peak("p", 0), peak("d", 0)), api.ErrTwice},
		"the name, and Size":  {panelOf(digits("d", 0), tape("d", 0, 0)), api.ErrRange},
		"twice, then no kind": {panelOf(digits("d", 0), peak("d", 0), api.Instrument{}), api.ErrTwice},
		"no kind, then twice": {panelOf(digits("d", 0), api.Instrument{}, peak("d", 0)), api.ErrKind},
		"the last of many":    {panelOf(append(numbered(panel.MaxInstruments-1).Instruments, peak("d98", 0))...), api.ErrTwice},
	} {
		wantErrno(t, name, panel.Check(c.p), c.want)
	}
}

// H1: what functions with panels and tracks ask for first, in this order, whatever else is wrong.
func TestErrorsOfPanelsAndTracks(t *testing.T) {
	bad := api.PanelState{Frame: -2}
	both := []api.Track{framed("a", 1), framed("b", 1)}
	for name, call := range map[string]func(p api.Panel, l []api.Track) []any{
		"Advance":         func(p api.Panel, l []api.Track) []any { return results(panel.Advance(p, l, bad)) },
		"Faces":           func(p api.Panel, l []api.Track) []any { return results(panel.Faces(p, l, bad)) },
		"Differ":          func(p api.Panel, l []api.Track) []any { return results(panel.Differ(p, l, l, -1)) },
		"Differ with b":   func(p api.Panel, l []api.Track) []any { return results(panel.Differ(p, both, l, -1)) },
		"Differ, a first": func(p api.Panel, l []api.Track) []any { return results(panel.Differ(p, l, make([]api.Track, 99), -1)) },
		"Shown":           func(p api.Panel, l []api.Track) []any { return results(panel.Shown(p, l, -1, -1)) },
		"New":             func(p api.Panel, l []api.Track) []any { return results(panel.New(p, l, 0)) },
	} {
		wantWrong(t, name+" of a wrong panel", call(wrongPanel(), wrongTracks()), api.ErrName)
		wantWrong(t, name+" of a wrong panel without its track", call(panelOf(on("b", tape("t", 0, 0))), only()), api.ErrRange)
		wantWrong(t, name+" of too many tracks", call(panelOf(on("b", digits("d", 0))), make([]api.Track, 51)), api.ErrSize)
		wantWrong(t, name+" of wrong tracks", call(each(), wrongTracks()), api.ErrName)
		wantWrong(t, name+" without the tracks", call(each(), nil), api.ErrNone)
		wantWrong(t, name+" without a track", call(panelOf(digits("d", 0), on("b", digits("c", 0))), only()), api.ErrNone)
		wantWrong(t, name+" of a name that no track can have", call(panelOf(on("if", digits("d", 0))), only()), api.ErrNone)
	}
	for name, call := range map[string]func() []any{
		"First":      func() []any { return results(panel.First(wrongPanel())) },
		"CheckState": func() []any { return results(panel.CheckState(wrongPanel(), bad)) },
		"Lines":      func() []any { return results(panel.Lines(wrongPanel(), nil)) },
	} {
		wantWrong(t, name, call(), api.ErrName)
	}
}
