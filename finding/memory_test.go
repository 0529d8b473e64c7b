package finding_test

import (
	"fmt"
	"reflect"
	"testing"

	"orangebox/api"
	"orangebox/finding"
)

// roomy is a copy of a value, all of whose lists have unused capacity with something in it.
func roomy[T any](x T) T {
	v := reflect.New(reflect.TypeOf(x)).Elem()
	v.Set(reflect.ValueOf(x))
	makeRoom(v)
	return v.Interface().(T)
}

func makeRoom(v reflect.Value) {
	switch v.Kind() {
	case reflect.Slice:
		longer := reflect.MakeSlice(v.Type(), v.Len()+3, v.Len()+3)
		reflect.Copy(longer, v)
		spoil(longer.Slice(v.Len(), v.Len()+3))
		for i := range v.Len() {
			makeRoom(longer.Index(i))
		}
		v.Set(longer.Slice(0, v.Len()))
	case reflect.Struct:
		for i := range v.NumField() {
			makeRoom(v.Field(i))
		}
	}
}

// spoil changes all that lists hold, with their unused capacity, and lists in them.
func spoil(v reflect.Value) {
	switch v.Kind() {
	case reflect.Slice:
		v = v.Slice(0, v.Cap())
		for i := range v.Len() {
			spoil(v.Index(i))
		}
	case reflect.Array:
		for i := range v.Len() {
			spoil(v.Index(i))
		}
	case reflect.Struct:
		for i := range v.NumField() {
			spoil(v.Field(i))
		}
	case reflect.Int:
		v.SetInt(-9)
	case reflect.Uint16:
		v.SetUint(9)
	case reflect.Bool:
		v.SetBool(!v.Bool())
	case reflect.String:
		v.SetString("spoilt")
	}
}

// unfolded is a copy of a value, with the unused capacity of its lists as elements.
func unfolded(v reflect.Value) any {
	switch v.Kind() {
	case reflect.Slice:
		v = v.Slice(0, v.Cap())
		return many(v.Len(), func(i int) any { return unfolded(v.Index(i)) })
	case reflect.Struct:
		return many(v.NumField(), func(i int) any { return unfolded(v.Field(i)) })
	case reflect.Interface:
		return unfolded(v.Elem())
	}
	return v.Interface()
}

// lists counts where the first elements of all lists are that a value holds.
func lists(v reflect.Value, at map[uintptr]int) {
	switch v.Kind() {
	case reflect.Slice:
		if v.Cap() > 0 {
			at[v.Pointer()]++
		}
		for i := range v.Len() {
			lists(v.Index(i), at)
		}
	case reflect.Struct:
		for i := range v.NumField() {
			lists(v.Field(i), at)
		}
	}
}

// G1 to G6: arguments stay as they are, with their unused capacity, whatever is done with results; and results with arguments. No two lists of a result are the same.
func TestMemory(t *testing.T) {
	b := climb(t, 0, 20)
	b.Sources = append(b.Sources, source("more", "a", 63))
	b.Sources[1].Meaning = []api.Calibration{line(1, 0, 2047, 1, 0)}
	b.Rests[11] = doubtful(b.Rests[11])
	b = roomy(b)
	r := roomy(ruledBy(t, "phase p phase q move p q if alt > 6 and low > 0 rule a if for 3 alt < 9 rule b if rule a and (phase q or low < more)"))
	l := roomy(tracksOf(t, b))
	words, names := roomy(wordsOf(4, 9, 5, 4, 3)), roomy([]string{"low", "alt"})
	f := roomy(evidenceOf(t, b, r, "b", 0, 7))
	findings := roomy([]api.Finding{f, evidenceOf(t, b, r, "a", 0, 9), f})
	twins := roomy([]api.Twins{{A: "alt", B: "low", Most: 3}, {A: "more", B: "low", Most: 85}})
	three := roomy([]string{"more", "low", "alt"})
	arguments := func() any {
		return unfolded(reflect.ValueOf([]any{b, r, l, words, names, f, findings, twins, three}))
	}
	before := fmt.Sprint(arguments())
	for name, call := range map[string]func() []any{
		"CheckBook":         func() []any { return results(finding.CheckBook(b)) },
		"Tracks":            func() []any { return results(finding.Tracks(b)) },
		"Certain":           func() []any { return results(finding.Certain(b)) },
		"Only":              func() []any { return results(finding.Only(b, words)) },
		"Words":             func() []any { return results(finding.Words(b, names, 3, 9)) },
		"Solid":             func() []any { return results(finding.Solid(b, words)) },
		"Truth":             func() []any { return results(finding.Truth(b, r, "b", 0, 7)) },
		"Reasons":           func() []any { return results(finding.Reasons(r, l, "b", 0, 7)) },
		"Needed":            func() []any { return results(finding.Needed(r, "b")) },
		"Evidence":          func() []any { return results(finding.Evidence(b, r, "b", 0, 7)) },
		"CheckFinding":      func() []any { return results(finding.CheckFinding(b, r, f)) },
		"Missing":           func() []any { return results(finding.Missing(b, r, "a", 0, 11)) },
		"Find":              func() []any { return results(finding.Find(b, r, 0, 15)) },
		"Order":             func() []any { return results(finding.Order(b, findings)) },
		"Clashes":           func() []any { return results(finding.Clashes(l, twins, 0, 19)) },
		"Vote":              func() []any { return results(finding.Vote(l, three, 3, 0, 19)) },
		"Tell":              func() []any { return results(finding.Tell(b, f)) },
		"TellAll":           func() []any { return results(finding.TellAll(b, findings)) },
		"a finding's words": func() []any { x, e := finding.Evidence(b, r, "a", 0, 9); return results(x.Words, e) },
	} {
		first, kept := call(), fmt.Sprint(call()...)
		wantErrno(t, name, first[len(first)-1].(api.Errno), api.OK)
		wantSame(t, name, fmt.Sprint(first...), kept)
		for _, result := range first {
			v := reflect.New(reflect.TypeOf(result)).Elem()
			v.Set(reflect.ValueOf(result))
			at := map[uintptr]int{}
			lists(v, at)
			for _, times := range at {
				wantSame(t, "a list in "+name, times, 1)
			}
			spoil(v)
		}
		wantSame(t, "arguments of "+name, fmt.Sprint(arguments()), before)
		wantSame(t, name+" again", fmt.Sprint(call()...), kept)
	}
}

// G1 to G5: what a function has been given can change without anything else changing.
func TestNothingIsKept(t *testing.T) {
	b := climb(t, 0, 20)
	r := ruledBy(t, "rule a if for 3 alt < 9 and low > 3")
	tracks, only, f := tracksOf(t, b), onlyOf(t, b, wordsOf(0, 9, 3, 4, 5)...), evidenceOf(t, b, r, "a", 0, 7)
	x, _ := voted(t, append(tracks, framed("c", 1, 0)), 5, 0, 19, "alt", "low", "c")
	kept := fmt.Sprint(tracks, only, f, x)
	spoil(reflect.ValueOf(&b).Elem())
	spoil(reflect.ValueOf(&r).Elem())
	wantSame(t, "results", fmt.Sprint(tracks, only, f, x), kept)
}
