package panel_test

import (
	"fmt"
	"testing"

	"orangebox/api"
	"orangebox/panel"
)

// H3: what each kind shows with a number and without one.
func TestFaces(t *testing.T) {
	l := only(25, -1, unknown, 90)
	l[0].Series.Samples[1].Mark = api.MarkMended
	const good, mended = api.MarkGood, api.MarkMended
	for frame, want := range [][]api.Face{
		{{Text: "2.5", Mark: good}, {Text: "green", Needle: 3, Mark: good}, {Text: "off", Mark: good}, {Text: "off", Mark: good}, {Text: "3", Mark: good}, {Text: "1", Lit: true, Mark: good}, {Text: "2.50", Mark: good}},
		{{Text: "-0.1", Mark: mended}, {Text: "low", Mark: mended}, {Text: "on", Lit: true, Mark: mended}, {Text: "on", Lit: true, Mark: mended}, {Text: "3", Mark: mended}, {Text: "1", Mark: mended}, {Text: "2.50 -0.10", Mark: mended}},
		{{Text: "---"}, {Text: "---"}, {Text: "---"}, {Text: "on", Lit: true}, {Text: "3"}, {Text: "1"}, {Text: "2.50 -0.10"}},
		{{Text: "9.0", Mark: good}, {Text: "", Needle: 10, Mark: good}, {Text: "off", Mark: good}, {Text: "on", Lit: true, Mark: good}, {Text: "9", Mark: good}, {Text: "2", Lit: true, Mark: good}, {Text: "2.50 -0.10 9.00", Mark: good}},
		{{Text: "---"}, {Text: "---"}, {Text: "---"}, {Text: "on", Lit: true}, {Text: "9"}, {Text: "2"}, {Text: "2.50 -0.10 9.00"}},
	} {
		wantSame(t, fmt.Sprint("Faces behind ", frame), facesOf(t, each(), l, stateAt(t, each(), l, frame)), want)
	}
}

// H3: ahead of all frames no sample is known, whatever the state says.
func TestFacesAheadOfAll(t *testing.T) {
	want := []api.Face{{Text: "---"}, {Text: "---"}, {Text: "---"}, {Text: "---"}, {Text: "---"}, {Text: "0"}, {Text: "---"}}
	wantSame(t, "Faces of First", facesOf(t, each(), only(5, 5), firstOf(t, each())), want)
	want = []api.Face{{Text: "---"}, {Text: "---"}, {Text: "on", Lit: true}, {Text: "on", Lit: true}, {Text: "0"}, {Text: "3", Lit: true}, {Text: "0.10 -0.20 0.30"}}
	wantSame(t, "Faces of memos", facesOf(t, each(), only(5, 5), api.PanelState{Frame: -1, Memos: memos()}), want)
	wantSame(t, "no instruments", facesOf(t, api.Panel{}, nil, api.PanelState{Frame: -1}), []api.Face{})
}

// H3: memos are shown as they are, and are not held against the sample.
func TestFacesOfAnyState(t *testing.T) {
	s := api.PanelState{Frame: 0, Memos: memos()}
	const good = api.MarkGood
	want := []api.Face{{Text: "10.0", Mark: good}, {Text: "", Needle: 10, Mark: good}, {Text: "on", Lit: true, Mark: good}, {Text: "on", Lit: true, Mark: good}, {Text: "0", Mark: good}, {Text: "3", Lit: true, Mark: good}, {Text: "0.10 -0.20 0.30", Mark: good}}
	wantSame(t, "Faces", facesOf(t, each(), only(100), s), want)
	s = api.PanelState{Frame: panel.MaxFrames - 1, Memos: []api.Memo{{}}}
	late := []api.Track{track("a", 4, 0, mended(panel.MaxFrames*64-1, 7))}
	wantSame(t, "the last frame", facesOf(t, panelOf(digits("d", 2)), late, s), []api.Face{{Text: "1.75", Mark: api.MarkMended}})
}

// H3: samples that are not solid, or no longer held, are not shown.
func TestFacesOfWhatIsNotKnown(t *testing.T) {
	l := []api.Track{track("a", 1, 127, good(0, 1), doubtful(64, 22), good(128, 3), wrong(192), good(256, 5), lost(320), good(384, 7), good(640, -8))}
	p := panelOf(digits("d", 0), peak("p", 0), tape("t", 9, 0), dial("n", 0, 9, 9), count("c", api.Greater, 20))
	r := replayOf(t, p, l, 1)
	for frame, want := range []string{
		"d: 1\np: 1\nt: 1\nn: \nc: 0\n",
		"d: --- ?\np: 1 ?\nt: 1 ?\nn: --- ?\nc: 0 ?\n",
		"d: 3\np: 3\nt: 1 3\nn: \nc: 0\n",
		"d: --- ?\np: 3 ?\nt: 1 3 ?\nn: --- ?\nc: 0 ?\n",
		"d: 5\np: 5\nt: 1 3 5\nn: \nc: 0\n",
		"d: --- ?\np: 5 ?\nt: 1 3 5 ?\nn: --- ?\nc: 0 ?\n",
		"d: 7\np: 7\nt: 1 3 5 7\nn: \nc: 0\n",
		"d: 7\np: 7\nt: 1 3 5 7 7\nn: \nc: 0\n",
		"d: --- ?\np: 7 ?\nt: 1 3 5 7 7 ?\nn: --- ?\nc: 0 ?\n",
	} {
		step(t, r, 1)
		wantSame(t, fmt.Sprint("lines behind ", frame), linesOf(t, p, r.Faces()), want)
	}
}

// H3
func TestLines(t *testing.T) {
	faces := []api.Face{{Text: "a", Mark: api.MarkGood}, {Text: "", Mark: api.MarkMended}, {Text: "x y", Lit: true, Mark: api.MarkGood}, {Text: "\n\xff", Lit: true, Needle: 7}, {Mark: api.MarkDoubtful}, {Mark: api.MarkWrong}, {Mark: 99}}
	wantSame(t, "Lines", linesOf(t, each(), faces), "digits: a\ndial:  ?\nlamp: x y *\nlatch: \n\xff * ?\npeak:  ?\ncount:  ?\ntape:  ?\n")
	wantSame(t, "no lines", linesOf(t, api.Panel{}, []api.Face{}), "")
	for _, n := range []int{0, 6, 8} {
		wantWrong(t, fmt.Sprint(n, " faces"), results(panel.Lines(each(), make([]api.Face, n))), api.ErrForm)
	}
}
