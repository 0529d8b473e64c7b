package panel_test

import (
	"fmt"
	"reflect"
	"testing"

	"orangebox/api"
	"orangebox/panel"
)

// roomy is a copy of a value, all of whose lists have unused capacity with something in it.
func roomy[T any](x T) T {
	v := reflect.New(reflect.TypeOf(x)).Elem()
	v.Set(reflect.ValueOf(x))
	makeRoom(v)
	return v.Interface().(T)
}

func makeRoom(v reflect.Value) {
	switch v.Kind() {
	case reflect.Slice:
		longer := reflect.MakeSlice(v.Type(), v.Len()+3, v.Len()+3)
		reflect.Copy(longer, v)
		spoil(longer.Slice(v.Len(), v.Len()+3))
		for i := range v.Len() {
			makeRoom(longer.Index(i))
		}
		v.Set(longer.Slice(0, v.Len()))
	case reflect.Struct:
		for i := range v.NumField() {
			makeRoom(v.Field(i))
		}
	}
}

// spoil changes all that lists hold, with their unused capacity, and lists in them.
func spoil(v reflect.Value) {
	switch v.Kind() {
	case reflect.Slice:
		v = v.Slice(0, v.Cap())
		for i := range v.Len() {
			spoil(v.Index(i))
		}
	case reflect.Array:
		for i := range v.Len() {
			spoil(v.Index(i))
		}
	case reflect.Struct:
		for i := range v.NumField() {
			spoil(v.Field(i))
		}
	case reflect.Int:
		v.SetInt(-9)
	case reflect.Uint16:
		v.SetUint(9)
	case reflect.Bool:
		v.SetBool(!v.Bool())
	case reflect.String:
		v.SetString("spoilt")
	}
}

// unfolded is a copy of a value, with the unused capacity of its lists as elements.
func unfolded(v reflect.Value) any {
	switch v.Kind() {
	case reflect.Slice:
		v = v.Slice(0, v.Cap())
		return many(v.Len(), func(i int) any { return unfolded(v.Index(i)) })
	case reflect.Struct:
		return many(v.NumField(), func(i int) any { return unfolded(v.Field(i)) })
	case reflect.Interface:
		return unfolded(v.Elem())
	}
	return v.Interface()
}

// lists counts where the first elements of all lists are that a value holds.
func lists(v reflect.Value, at map[uintptr]int) {
	switch v.Kind() {
	case reflect.Slice:
		if v.Cap() > 0 {
			at[v.Pointer()]++
		}
		for i := range v.Len() {
			lists(v.Index(i), at)
		}
	case reflect.Struct:
		for i := range v.NumField() {
			lists(v.Field(i), at)
		}
	}
}

// H1 to H4: arguments stay as they are, with their unused capacity, whatever is done with results; and results with arguments. No two lists of a result are the same.
func TestMemory(t *testing.T) {
	p := roomy(each())
	l := roomy([]api.Track{framed("b", 3, 7), framed("a", 10, 3, -5, unknown, 40, 8)})
	other := roomy(only(3, -5, unknown, 41))
	s := roomy(api.PanelState{Frame: 2, Memos: memos()})
	faces := roomy(facesOf(t, p, l, s))
	dial, value := p.Instruments[1], l[1]
	arguments := func() any {
		return unfolded(reflect.ValueOf([]any{p, l, other, s, faces}))
	}
	before := fmt.Sprint(arguments())
	for name, call := range map[string]func() []any{
		"CheckInstrument": func() []any { return results(panel.CheckInstrument(dial)) },
		"Check":           func() []any { return results(panel.Check(p)) },
		"Value":           func() []any { return results(panel.Value(value, 3)) },
		"Needle":          func() []any { return results(panel.Needle(dial, 7)) },
		"ZoneOf":          func() []any { return results(panel.ZoneOf(dial, 7)) },
		"First":           func() []any { return results(panel.First(p)) },
		"CheckState":      func() []any { return results(panel.CheckState(p, s)) },
		"Advance":         func() []any { return results(panel.Advance(p, l, s)) },
		"Faces":           func() []any { return results(panel.Faces(p, l, s)) },
		"Lines":           func() []any { return results(panel.Lines(p, faces)) },
		"Differ":          func() []any { return results(panel.Differ(p, l, other, 9)) },
		"Shown":           func() []any { return results(panel.Shown(p, l, 0, 9)) },
	} {
		wantApart(t, name, call)
		wantSame(t, "arguments of "+name, fmt.Sprint(arguments()), before)
	}
}

// wantApart spoils the results of a function, and wants them again.
func wantApart(t *testing.T, name string, call func() []any) {
	t.Helper()
	first, kept := call(), fmt.Sprint(call()...)
	wantSame(t, name, fmt.Sprint(first...), kept)
	for _, result := range first {
		if e, ok := result.(api.Errno); ok {
			wantErrno(t, name, e, api.OK)
			continue
		}
		v := reflect.New(reflect.TypeOf(result)).Elem()
		v.Set(reflect.ValueOf(result))
		at := map[uintptr]int{}
		lists(v, at)
		for _, times := range at {
			wantSame(t, "a list in "+name, times, 1)
		}
		spoil(v)
	}
	wantSame(t, name+" again", fmt.Sprint(call()...), kept)
}

// H5: what a replay gives out is its own, at each frame.
func TestMemoryOfReplays(t *testing.T) {
	r := replayOf(t, each(), only(3, -5, unknown, 40, 8, 9, 10), 2)
	step(t, r, 5)
	wantErrno(t, "Mark", r.Mark("x"), api.OK)
	for _, frame := range []int{-1, 6, 3, 0} {
		seek(t, r, frame)
		for name, call := range map[string]func() []any{
			"Frame": func() []any { return results(r.Frame()) },
			"State": func() []any { return results(r.State()) },
			"Faces": func() []any { return results(r.Faces()) },
			"Kept":  func() []any { return results(r.Kept()) },
			"Marks": func() []any { return results(r.Marks()) },
			"Seek":  func() []any { return results(r.Seek(frame)) },
		} {
			wantApart(t, name, call)
		}
	}
}

// H3, H5: what a function has been given can change without anything else changing.
func TestNothingIsKept(t *testing.T) {
	p, l := each(), only(3, -5, unknown, 40, 8, 9, 10)
	r, again := replayOf(t, p, l, 3), replayOf(t, p, l, 3)
	step(t, r, 3)
	s := stateAt(t, p, l, 4)
	next := advanced(t, p, l, s)
	kept := fmt.Sprint(next)
	spoil(reflect.ValueOf(&p).Elem())
	spoil(reflect.ValueOf(&l).Elem())
	spoil(reflect.ValueOf(&s).Elem())
	wantSame(t, "Advance", fmt.Sprint(next), kept)
	for _, frame := range []int{6, 4, 1} {
		for _, x := range []*panel.Replay{r, again} {
			seek(t, x, frame)
			wantSame(t, "State", fmt.Sprint(x.State()), fmt.Sprint(plainState(each(), only(3, -5, unknown, 40, 8, 9, 10), frame)))
			wantSame(t, "Faces", x.Faces(), plainFaces(each(), only(3, -5, unknown, 40, 8, 9, 10), frame))
		}
	}
}
