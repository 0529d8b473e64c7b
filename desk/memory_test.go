package desk_test

import (
	"fmt"
	"reflect"
	"testing"

	"orangebox/api"
	"orangebox/desk"
)

// roomy is a copy of a value, all of whose lists have unused capacity with something in it.
func roomy[T any](x T) T {
	v := reflect.New(reflect.TypeOf(x)).Elem()
	v.Set(reflect.ValueOf(x))
	makeRoom(v)
	return v.Interface().(T)
}

func makeRoom(v reflect.Value) {
	switch v.Kind() {
	case reflect.Slice:
		longer := reflect.MakeSlice(v.Type(), v.Len()+3, v.Len()+3)
		reflect.Copy(longer, v)
		spoil(longer.Slice(v.Len(), v.Len()+3))
		for i := range v.Len() {
			makeRoom(longer.Index(i))
		}
		v.Set(longer.Slice(0, v.Len()))
	case reflect.Struct:
		for i := range v.NumField() {
			makeRoom(v.Field(i))
		}
	}
}

// spoil changes all that lists hold, with their unused capacity, and lists in them.
func spoil(v reflect.Value) {
	switch v.Kind() {
	case reflect.Slice:
		v = v.Slice(0, v.Cap())
		for i := range v.Len() {
			spoil(v.Index(i))
		}
	case reflect.Array:
		for i := range v.Len() {
			spoil(v.Index(i))
		}
	case reflect.Struct:
		for i := range v.NumField() {
			spoil(v.Field(i))
		}
	case reflect.Int:
		v.SetInt(-9)
	case reflect.Uint8, reflect.Uint16:
		v.SetUint(9)
	case reflect.Bool:
		v.SetBool(!v.Bool())
	case reflect.String:
		v.SetString("spoilt")
	}
}

// unfolded is a copy of a value, with the unused capacity of its lists as elements.
func unfolded(v reflect.Value) any {
	switch v.Kind() {
	case reflect.Slice:
		v = v.Slice(0, v.Cap())
		return many(v.Len(), func(i int) any { return unfolded(v.Index(i)) })
	case reflect.Struct:
		return many(v.NumField(), func(i int) any { return unfolded(v.Field(i)) })
	case reflect.Interface:
		return unfolded(v.Elem())
	}
	return v.Interface()
}

// lists counts where the first elements of all lists are that a value holds.
func lists(v reflect.Value, at map[uintptr]int) {
	switch v.Kind() {
	case reflect.Slice:
		if v.Cap() > 0 {
			at[v.Pointer()]++
		}
		for i := range v.Len() {
			lists(v.Index(i), at)
		}
	case reflect.Struct:
		for i := range v.NumField() {
			lists(v.Field(i), at)
		}
	}
}

// everything has the arguments of all functions.
type everything struct {
	c          api.Case
	b          api.Book
	values     [][]int
	frames     []api.Frame
	memories   []api.Memory
	cuts, lost []int
	flips      []api.Flip
	pieces     []api.Piece
}

func roomyOnes(t *testing.T) everything {
	t.Helper()
	c := reportedCase(t)
	x := everything{c: c, b: gappedBook(t, c), values: [][]int{superValues(1, 2), superValues(7, 0)}, cuts: []int{1000, 2001}, lost: []int{2}, flips: []api.Flip{{Piece: 1, Half: 20, Bits: 5}, {Half: 3, Bits: 9}}}
	x.frames = recorded(t, c, 16, x.values...)
	x.memories = stored(t, x.frames[:9], 2, memory(t, 2, 10), memory(t, 3, 7))
	x.pieces = crashed(t, x.memories, x.cuts, x.lost, x.flips...)
	return everything{roomy(x.c), roomy(x.b), roomy(x.values), roomy(x.frames), roomy(x.memories), roomy(x.cuts), roomy(x.lost), roomy(x.flips), roomy(x.pieces)}
}

func (x everything) calls() map[string]func() []any {
	return map[string]func() []any{
		"CheckCase":    func() []any { return results(desk.CheckCase(x.c)) },
		"Record":       func() []any { return results(desk.Record(x.c, 16, x.values)) },
		"Store":        func() []any { return results(desk.Store(x.frames, x.memories, 2, 1000000)) },
		"Store some":   func() []any { return results(desk.Store(x.frames, x.memories, 1, 1000)) },
		"Store none":   func() []any { return results(desk.Store(nil, x.memories, 1, 1000)) },
		"Crash":        func() []any { return results(desk.Crash(x.memories, x.cuts, x.lost, x.flips)) },
		"Read":         func() []any { return results(desk.Read(x.c, x.pieces)) },
		"Show":         func() []any { return results(desk.Show(x.b, 1)) },
		"Survives":     func() []any { return results(desk.Survives(x.b, 0)) },
		"Seconds":      func() []any { return results(desk.Seconds(x.b)) },
		"Report":       func() []any { return results(desk.Report(x.c, x.b, 0, 31)) },
		"PrintSources": func() []any { return results(desk.PrintSources(x.c.Sources)) },
		"ReadSources":  func() []any { return results(desk.ReadSources(sourcesText)) },
		"Commands":     func() []any { return results(desk.Commands("map\nmap 7\nend\nsalvage")) },
		"Session":      func() []any { return results(desk.Session(caseSession() + "salvage\n")) },
	}
}

func (x everything) arguments() string {
	return fmt.Sprint(unfolded(reflect.ValueOf([]any{x.c, x.b, x.values, x.frames, x.memories, x.cuts, x.lost, x.flips, x.pieces})))
}

// J1 to J6: arguments stay as they are, with their unused capacity, whatever is done with results. No two lists of a result are the same.
func TestMemory(t *testing.T) {
	x := roomyOnes(t)
	before := x.arguments()
	for name, call := range x.calls() {
		wantApart(t, name, call)
		wantSame(t, "arguments of "+name, x.arguments(), before)
	}
}

// J1 to J5: results stay as they are, whatever is done with arguments.
func TestNothingIsKept(t *testing.T) {
	for name := range roomyOnes(t).calls() {
		x := roomyOnes(t)
		found := x.calls()[name]()
		kept := fmt.Sprint(found...)
		for _, v := range []any{&x.c, &x.b, &x.values, &x.frames, &x.memories, &x.cuts, &x.lost, &x.flips, &x.pieces} {
			spoil(reflect.ValueOf(v).Elem())
		}
		wantSame(t, name, fmt.Sprint(found...), kept)
	}
}

// wantApart spoils the results of a function, and wants them again.
func wantApart(t *testing.T, name string, call func() []any) {
	t.Helper()
	first, kept := call(), fmt.Sprint(call()...)
	wantSame(t, name, fmt.Sprint(first...), kept)
	for _, result := range first {
		if e, ok := result.(api.Errno); ok {
			wantErrno(t, name, e, api.OK)
			continue
		}
		v := reflect.New(reflect.TypeOf(result)).Elem()
		v.Set(reflect.ValueOf(result))
		at := map[uintptr]int{}
		lists(v, at)
		for _, times := range at {
			wantSame(t, "a list in "+name, times, 1)
		}
		spoil(v)
	}
	wantSame(t, name+" again", fmt.Sprint(call()...), kept)
}
