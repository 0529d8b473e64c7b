package salvage_test

import (
	"math"
	"math/rand/v2"
	"reflect"
	"slices"
	"testing"

	"orangebox/api"
	"orangebox/frame"
	"orangebox/salvage"
)

// dice gives the same numbers in each run.
func dice(seed uint64) *rand.Rand {
	return rand.New(rand.NewPCG(seed, 4))
}

// beyond has numbers that are in no range of the document.
func beyond() []int {
	return []int{math.MinInt, math.MinInt + 1, -1 << 32, -193, -192, 1<<32 + 1, math.MaxInt - 192, math.MaxInt}
}

func wantErrno(t *testing.T, name string, got, want api.Errno) {
	t.Helper()
	if got != want {
		t.Errorf("%s: error %d, want %d", name, got, want)
	}
}

func wantSame(t *testing.T, name string, got, want any) {
	t.Helper()
	g, w := reflect.ValueOf(got), reflect.ValueOf(want)
	if g.Kind() == reflect.Slice && w.Kind() == reflect.Slice && g.Len() == 0 && w.Len() == 0 {
		return
	}
	if !reflect.DeepEqual(got, want) {
		t.Errorf("%s: got %v, want %v", name, got, want)
	}
}

// wantNothing wants zero values, or empty lists.
func wantNothing(t *testing.T, name string, results ...any) {
	t.Helper()
	for _, r := range results {
		v := reflect.ValueOf(r)
		if !v.IsZero() && (v.Kind() != reflect.Slice || v.Len() > 0) {
			t.Errorf("%s: got %v, want nothing", name, r)
		}
	}
}

// wrong has pieces with errors.
func wrong() map[string]struct {
	piece api.Piece
	errno api.Errno
} {
	return map[string]struct {
		piece api.Piece
		errno api.Errno
	}{
		"too many bytes":                   {api.Piece{Bytes: make([]byte, salvage.MaxBytes+1)}, api.ErrSize},
		"too many bytes and a high half":   {api.Piece{Bytes: slices.Repeat([]byte{16}, salvage.MaxBytes+1), Half: true}, api.ErrSize},
		"a half of no bytes":               {api.Piece{Half: true}, api.ErrForm},
		"a half of an empty list":          {api.Piece{Bytes: []byte{}, Half: true}, api.ErrForm},
		"a high half that is not there":    {api.Piece{Bytes: []byte{16, 0}, Half: true}, api.ErrForm},
		"all bits of a half not there set": {api.Piece{Bytes: []byte{255}, Half: true}, api.ErrForm},
	}
}

// numbered is the sound frame with a number and some data, which are the same for equal salt.
func numbered(t *testing.T, number, salt int) api.Frame {
	t.Helper()
	r := dice(uint64(number)<<20 + uint64(salt))
	data := make([]int, 58)
	for i := range data {
		data[i] = r.IntN(2048)
	}
	f, e := frame.New(number, data)
	wantErrno(t, "frame.New", e, api.OK)
	return f
}

// spelt returns the halves of frames.
func spelt(l ...api.Frame) []int {
	var h []int
	for _, f := range l {
		for _, w := range f {
			h = append(h, int(w>>8), int(w>>4&15), int(w&15))
		}
	}
	return h
}

// spaced returns the halves of frames with so many halves 0 behind each one.
func spaced(n int, l ...api.Frame) []int {
	var h []int
	for _, f := range l {
		h = append(h, spelt(f)...)
		h = append(h, make([]int, n)...)
	}
	return h
}

// noise returns halves with which no sync word begins.
func noise(n int) []int {
	return slices.Repeat([]int{15}, n)
}

// packed returns a piece that begins with these halves, behind half a byte or not. If their number is odd in bytes, one half more is 0.
func packed(halves []int, half bool) api.Piece {
	p := api.Piece{Half: half && len(halves) > 0}
	if p.Half {
		halves = slices.Concat([]int{0}, halves)
	}
	for i := 0; i < len(halves); i += 2 {
		b := byte(halves[i] << 4)
		if i+1 < len(halves) {
			b |= byte(halves[i+1])
		}
		p.Bytes = append(p.Bytes, b)
	}
	return p
}

// halvesOf returns the halves of a piece.
func halvesOf(p api.Piece) []int {
	var h []int
	for _, b := range p.Bytes {
		h = append(h, int(b/16), int(b%16))
	}
	if p.Half {
		h = h[1:]
	}
	return h
}

func copyOf(p api.Piece) api.Piece {
	return api.Piece{Bytes: slices.Clone(p.Bytes), Half: p.Half}
}

func scanned(t *testing.T, p api.Piece) []api.Found {
	t.Helper()
	l, e := salvage.Scan(p)
	wantErrno(t, "Scan", e, api.OK)
	return l
}

func certain(t *testing.T, p api.Piece) []api.Found {
	t.Helper()
	l, e := salvage.Certain(p)
	wantErrno(t, "Certain", e, api.OK)
	return l
}

func restsOf(t *testing.T, p api.Piece) []api.Rest {
	t.Helper()
	l, e := salvage.Rests(p)
	wantErrno(t, "Rests", e, api.OK)
	return l
}

func salvaged(t *testing.T, l ...api.Piece) []api.Rest {
	t.Helper()
	r, e := salvage.Salvage(l)
	wantErrno(t, "Salvage", e, api.OK)
	return r
}

func merged(t *testing.T, l ...api.Rest) api.Rest {
	t.Helper()
	r, e := salvage.Merge(l)
	wantErrno(t, "Merge", e, api.OK)
	wantErrno(t, "CheckRest of what Merge returns", salvage.CheckRest(r), api.OK)
	return r
}

func mended(t *testing.T, r api.Rest) api.Rest {
	t.Helper()
	m, e := salvage.Mended(r)
	wantErrno(t, "Mended", e, api.OK)
	wantErrno(t, "CheckRest of what Mended returns", salvage.CheckRest(m), api.OK)
	return m
}

// soundRest is the rest of a frame that was found so often.
func soundRest(f api.Frame, copies int) api.Rest {
	number, _ := frame.Number(f)
	return api.Rest{Number: number, Frame: f, States: all(api.WordGood), Sound: true, Copies: copies}
}

// doubtfulRest is a rest of a frame of which some words are lost.
func doubtfulRest(number int, f api.Frame, lost ...int) api.Rest {
	r := api.Rest{Number: number, Frame: f, States: all(api.WordDoubtful)}
	for _, i := range lost {
		r.Frame[i], r.States[i] = 0, api.WordLost
	}
	return r
}

// mendedRest is the sound rest of a frame with mended words.
func mendedRest(f api.Frame, copies int, places ...int) api.Rest {
	r := soundRest(f, copies)
	for _, i := range places {
		r.States[i] = api.WordMended
	}
	return r
}

func all(state int) [api.Words]int {
	var l [api.Words]int
	for i := range l {
		l[i] = state
	}
	return l
}

// upTo has the numbers from one on, before another one.
func upTo(from, to int) []int {
	var l []int
	for i := from; i < to; i++ {
		l = append(l, i)
	}
	return l
}

func numbersOf(l []api.Rest) []int {
	var n []int
	for _, r := range l {
		n = append(n, r.Number)
	}
	return n
}

// wrongRests has rests with errors.
func wrongRests(t *testing.T) map[string]struct {
	rest  api.Rest
	errno api.Errno
} {
	t.Helper()
	type row = struct {
		rest  api.Rest
		errno api.Errno
	}
	f := numbered(t, 40, 0)
	with := func(change func(r *api.Rest), r api.Rest) api.Rest {
		change(&r)
		return r
	}
	good, bad := soundRest(f, 1), doubtfulRest(40, f, 7)
	return map[string]row{
		"a negative number":             {with(func(r *api.Rest) { r.Number = -1 }, api.Rest{}), api.ErrRange},
		"a number too great":            {with(func(r *api.Rest) { r.Number = api.Number }, api.Rest{}), api.ErrRange},
		"a state below all":             {with(func(r *api.Rest) { r.States[63] = api.WordLost - 1 }, bad), api.ErrRange},
		"a state above all":             {with(func(r *api.Rest) { r.States[0] = api.WordGood + 1 }, good), api.ErrRange},
		"a lost word that is there":     {with(func(r *api.Rest) { r.Frame[7] = 1 }, bad), api.ErrForm},
		"a wide word":                   {with(func(r *api.Rest) { r.Frame[63] = 4096 }, bad), api.ErrForm},
		"a frame that is not sound":     {with(func(r *api.Rest) { r.Frame[30] ^= 1 }, good), api.ErrForm},
		"another number":                {with(func(r *api.Rest) { r.Number = 44 }, good), api.ErrForm},
		"a sound one with a lost word":  {with(func(r *api.Rest) { r.Sound = true }, doubtfulRest(40, f, 0)), api.ErrForm},
		"a sound one with a doubt":      {with(func(r *api.Rest) { r.States[12] = api.WordDoubtful }, good), api.ErrForm},
		"a good word of what is not":    {with(func(r *api.Rest) { r.States[12] = api.WordGood }, bad), api.ErrForm},
		"a mended word of what is not":  {with(func(r *api.Rest) { r.States[12] = api.WordMended }, bad), api.ErrForm},
		"negative copies":               {with(func(r *api.Rest) { r.Copies = -1 }, bad), api.ErrRange},
		"negative copies of what is":    {with(func(r *api.Rest) { r.Copies = math.MinInt }, mendedRest(f, 0, 4)), api.ErrRange},
		"no copies though all is good":  {with(func(r *api.Rest) { r.Copies = 0 }, good), api.ErrRange},
		"a conflict of what is sound":   {with(func(r *api.Rest) { r.Conflict = true }, good), api.ErrForm},
		"range of a word, then form":    {with(func(r *api.Rest) { r.States[3], r.Frame[4] = 9, 4096 }, bad), api.ErrRange},
		"form of a word, then range":    {with(func(r *api.Rest) { r.Frame[3], r.States[4] = 4096, 9 }, bad), api.ErrForm},
		"range in one word, form too":   {with(func(r *api.Rest) { r.Frame[3], r.States[3] = 4096, 9 }, bad), api.ErrRange},
		"number, then form":             {with(func(r *api.Rest) { r.Number, r.Frame[3] = -1, 4096 }, bad), api.ErrRange},
		"state of a word, then sound":   {with(func(r *api.Rest) { r.Sound, r.States[63] = true, 4 }, bad), api.ErrRange},
		"not sound, then copies":        {with(func(r *api.Rest) { r.Frame[30], r.Copies = 1, 0 }, good), api.ErrForm},
		"good words, then copies":       {with(func(r *api.Rest) { r.States[3], r.Copies = 3, -1 }, bad), api.ErrForm},
		"copies, then conflict":         {with(func(r *api.Rest) { r.Copies, r.Conflict = 0, true }, good), api.ErrRange},
		"negative copies of a conflict": {with(func(r *api.Rest) { r.Copies, r.Conflict = -1, true }, api.Rest{}), api.ErrRange},
	}
}
