package fleet_test

import (
	"fmt"
	"reflect"
	"testing"

	"orangebox/api"
	"orangebox/fleet"
)

// roomy is a copy of a value, all of whose lists have unused capacity with something in it.
func roomy[T any](x T) T {
	v := reflect.New(reflect.TypeOf(x)).Elem()
	v.Set(reflect.ValueOf(x))
	makeRoom(v)
	return v.Interface().(T)
}

func makeRoom(v reflect.Value) {
	switch v.Kind() {
	case reflect.Slice:
		longer := reflect.MakeSlice(v.Type(), v.Len()+3, v.Len()+3)
		reflect.Copy(longer, v)
		spoil(longer.Slice(v.Len(), v.Len()+3))
		for i := range v.Len() {
			makeRoom(longer.Index(i))
		}
		v.Set(longer.Slice(0, v.Len()))
	case reflect.Struct:
		for i := range v.NumField() {
			makeRoom(v.Field(i))
		}
	}
}

// spoil changes all that lists hold, with their unused capacity, and lists in them.
func spoil(v reflect.Value) {
	switch v.Kind() {
	case reflect.Slice:
		v = v.Slice(0, v.Cap())
		for i := range v.Len() {
			spoil(v.Index(i))
		}
	case reflect.Array:
		for i := range v.Len() {
			spoil(v.Index(i))
		}
	case reflect.Struct:
		for i := range v.NumField() {
			spoil(v.Field(i))
		}
	case reflect.Int:
		v.SetInt(-9)
	case reflect.Uint16:
		v.SetUint(9)
	case reflect.Bool:
		v.SetBool(!v.Bool())
	case reflect.String:
		v.SetString("spoilt")
	}
}

// unfolded is a copy of a value, with the unused capacity of its lists as elements.
func unfolded(v reflect.Value) any {
	switch v.Kind() {
	case reflect.Slice:
		v = v.Slice(0, v.Cap())
		return many(v.Len(), func(i int) any { return unfolded(v.Index(i)) })
	case reflect.Struct:
		return many(v.NumField(), func(i int) any { return unfolded(v.Field(i)) })
	case reflect.Interface:
		return unfolded(v.Elem())
	}
	return v.Interface()
}

// lists counts where the first elements of all lists are that a value holds.
func lists(v reflect.Value, at map[uintptr]int) {
	switch v.Kind() {
	case reflect.Slice:
		if v.Cap() > 0 {
			at[v.Pointer()]++
		}
		for i := range v.Len() {
			lists(v.Index(i), at)
		}
	case reflect.Struct:
		for i := range v.NumField() {
			lists(v.Field(i), at)
		}
	}
}

// everything has the arguments of all functions, and rows of tables.
type everything struct {
	asked
	a, b []api.FleetRow
}

func roomyOnes(t *testing.T) everything {
	x := everything{asked: fine(t), a: []api.FleetRow{shown("a", 1, 2), hidden("b")}, b: []api.FleetRow{hidden("b"), shown("a", 3, 4)}}
	x.rules = ruled(t, phased+"rule high if a > 10\nrule more if a > b and phase up")
	x.f = flight("t", "r", 7, framed("b", 1, 2, 3), framed("a", 4, 15, 6), framed("c", 7, 8, 9))
	x.mask = api.Mask{Days: 2, Hide: []string{"x", "b"}, Grains: []api.Grain{grain("a", 3), grain("y", 2)}, Least: 2}
	return everything{
		asked: asked{
			f: roomy(x.f), l: roomy(x.l), other: roomy(x.other), rules: roomy(x.rules), mask: roomy(x.mask),
			track: x.track, rule: x.rule, by: x.by, num: x.num, den: x.den, factor: x.factor,
		},
		a: roomy(x.a), b: roomy(x.b),
	}
}

func (x everything) calls() map[string]func() []any {
	return map[string]func() []any{
		"CheckFlight": func() []any { return results(fleet.CheckFlight(x.f)) },
		"CheckMask":   func() []any { return results(fleet.CheckMask(x.mask)) },
		"Masked":      func() []any { return results(fleet.Masked(x.f, x.mask)) },
		"Masked with": func() []any { return results(fleet.Masked(x.f, open())) },
		"Peak":        func() []any { return results(fleet.Peak(x.f, "a")) },
		"Events":      func() []any { return results(fleet.Events(x.f, x.rules)) },
		"Exceed":      func() []any { return results(fleet.Exceed(x.f, x.rules)) },
		"Table":       x.table,
		"Quantile":    x.quantile,
		"Mean":        x.mean,
		"Trend":       x.trend,
		"Apart":       x.apart,
		"Odd":         x.odd,
		"CheckTable":  func() []any { return results(fleet.CheckTable(x.a)) },
		"Total":       func() []any { return results(fleet.Total(x.a)) },
		"Reveals":     func() []any { return results(fleet.Reveals(x.a, x.b, 5)) },
		"Print":       func() []any { return results(fleet.Print(x.a)) },
	}
}

func (x everything) arguments() string {
	return fmt.Sprint(unfolded(reflect.ValueOf([]any{x.f, x.l, x.other, x.rules, x.mask, x.a, x.b})))
}

// I1 to I5: arguments stay as they are, with their unused capacity, whatever is done with results. No two lists of a result are the same.
func TestMemory(t *testing.T) {
	x := roomyOnes(t)
	before := x.arguments()
	for name, call := range x.calls() {
		wantApart(t, name, call)
		wantSame(t, "arguments of "+name, x.arguments(), before)
	}
}

// I1 to I5: results stay as they are, whatever is done with arguments.
func TestNothingIsKept(t *testing.T) {
	for name := range roomyOnes(t).calls() {
		x := roomyOnes(t)
		found := x.calls()[name]()
		kept := fmt.Sprint(found...)
		for _, v := range []reflect.Value{reflect.ValueOf(&x.f), reflect.ValueOf(&x.l), reflect.ValueOf(&x.other), reflect.ValueOf(&x.rules), reflect.ValueOf(&x.mask), reflect.ValueOf(&x.a), reflect.ValueOf(&x.b)} {
			spoil(v.Elem())
		}
		wantSame(t, name, fmt.Sprint(found...), kept)
	}
}

// wantApart spoils the results of a function, and wants them again.
func wantApart(t *testing.T, name string, call func() []any) {
	t.Helper()
	first, kept := call(), fmt.Sprint(call()...)
	wantSame(t, name, fmt.Sprint(first...), kept)
	for _, result := range first {
		if e, ok := result.(api.Errno); ok {
			wantErrno(t, name, e, api.OK)
			continue
		}
		v := reflect.New(reflect.TypeOf(result)).Elem()
		v.Set(reflect.ValueOf(result))
		at := map[uintptr]int{}
		lists(v, at)
		for _, times := range at {
			wantSame(t, "a list in "+name, times, 1)
		}
		spoil(v)
	}
	wantSame(t, name+" again", fmt.Sprint(call()...), kept)
}
