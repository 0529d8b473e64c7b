package event_test

import (
	"fmt"
	"reflect"
	"slices"
	"testing"

	"orangebox/api"
	"orangebox/event"
)

// roomy gives a list unused capacity, with something in it.
func roomy[T any](l []T, unused T) []T {
	longer := make([]T, 0, len(l)+3)
	longer = append(append(longer, l...), unused, unused, unused)
	return longer[:len(l)]
}

// whole is a list with its unused capacity.
func whole[T any](l []T) []T {
	return slices.Clone(l[:cap(l)])
}

var odd = api.Cond{Kind: -7, Name: "odd"}

// roomyCond gives all lists of kids unused capacity.
func roomyCond(c api.Cond) api.Cond {
	kids := make([]api.Cond, len(c.Kids))
	for i, kid := range c.Kids {
		kids[i] = roomyCond(kid)
	}
	c.Kids = roomy(kids, odd)
	return c
}

// wholeCond is a condition with the unused capacity in it.
func wholeCond(c api.Cond) api.Cond {
	c.Kids = whole(c.Kids)
	for i := range c.Kids {
		c.Kids[i] = wholeCond(c.Kids[i])
	}
	return c
}

func roomyRules(r api.Rules) api.Rules {
	r.Phases, r.Moves, r.Rules = roomy(r.Phases, "odd"), roomy(r.Moves, api.Move{From: "odd"}), roomy(r.Rules, api.Rule{Name: "odd"})
	for i := range r.Moves {
		r.Moves[i].When = roomyCond(r.Moves[i].When)
	}
	for i := range r.Rules {
		r.Rules[i].When = roomyCond(r.Rules[i].When)
	}
	return r
}

func wholeRules(r api.Rules) api.Rules {
	r.Phases, r.Moves, r.Rules = whole(r.Phases), whole(r.Moves), whole(r.Rules)
	for i := range r.Moves {
		r.Moves[i].When = wholeCond(r.Moves[i].When)
	}
	for i := range r.Rules {
		r.Rules[i].When = wholeCond(r.Rules[i].When)
	}
	return r
}

// spoil changes all that lists hold, with their unused capacity, and lists in them.
func spoil(v reflect.Value) {
	switch v.Kind() {
	case reflect.Slice:
		v = v.Slice(0, v.Cap())
		for i := range v.Len() {
			spoil(v.Index(i))
		}
	case reflect.Struct:
		for i := range v.NumField() {
			spoil(v.Field(i))
		}
	case reflect.Int:
		v.SetInt(-9)
	case reflect.Bool:
		v.SetBool(!v.Bool())
	case reflect.String:
		v.SetString("spoilt")
	}
}

// lists adds where the first elements of all lists are that a value holds.
func lists(v reflect.Value, at map[uintptr]int) {
	switch v.Kind() {
	case reflect.Slice:
		if v.Cap() > 0 {
			at[v.Pointer()]++
		}
		for i := range v.Len() {
			lists(v.Index(i), at)
		}
	case reflect.Struct:
		for i := range v.NumField() {
			lists(v.Field(i), at)
		}
	}
}

// busy has all kinds of conditions, some of which share their kids.
func busy(t *testing.T) api.Rules {
	t.Helper()
	r := ruledBy(t, `phase p phase q phase s
		move p q if since x > 1 rises y < 2 move q s if not (steady x 1 3 and for 2 (x < y or true))
		rule a if x > 1 or y < 1 rule b if not (rule a and phase q) or within 3 count 2 of 3 not not x = 1 rule c if for 2 not rule b`)
	shared := both(over(), inAll(2, over()))
	r.Rules = append(r.Rules, api.Rule{Name: "d", When: either(shared, not(shared), since(shared, rises(shared)))})
	return r
}

// F1 to F7: arguments stay as they are, with their unused capacity, whatever is done with results; and results with arguments. No two lists of a result are the same.
func TestMemory(t *testing.T) {
	rules := roomyRules(busy(t))
	other := roomyRules(ruledBy(t, "phase q phase z move z q if z > 1 rule z if phase z or rises z > 1"))
	cond := roomyCond(not(rules.Rules[3].When))
	tracks := roomy(someTracks(dice(12), 0, 20), api.Track{Name: "odd"})
	tracks[0].Name, tracks[1].Name, tracks[2].Name = "x", "y", "z"
	for i := range tracks {
		tracks[i].Series.Samples = roomy(tracks[i].Series.Samples, api.Sample{At: -7})
	}
	all := func() []any {
		l := []any{wholeRules(rules), wholeRules(other), wholeCond(cond), whole(tracks)}
		for i := range tracks {
			l = append(l, whole(tracks[i].Series.Samples))
		}
		return l
	}
	before := all()
	for name, call := range map[string]func() []any{
		"CheckCond":                             func() []any { return results(event.CheckCond(cond)) },
		"Check":                                 func() []any { return results(event.Check(rules)) },
		"CheckTracks":                           func() []any { return results(event.CheckTracks(tracks)) },
		"Tracks":                                func() []any { return results(event.Tracks(rules)) },
		"Depths":                                func() []any { return results(event.Depths(rules)) },
		"Inputs":                                func() []any { return results(event.Inputs(tracks, 3)) },
		"Evaluate":                              func() []any { return results(event.Evaluate(rules, tracks, 2, 19)) },
		"Phases":                                func() []any { return results(event.Phases(rules, tracks, 2, 19)) },
		"Events":                                func() []any { return results(event.Events(rules, tracks, 2, 19)) },
		"Inward":                                func() []any { return results(event.Inward(cond)) },
		"Inward of a condition without CondNot": func() []any { return results(event.Inward(rules.Rules[0].When)) },
		"Slower":                                func() []any { return results(event.Slower(rules, 2)) },
		"Slower by 1":                           func() []any { return results(event.Slower(rules, 1)) },
		"Merge":                                 func() []any { return results(event.Merge(rules, other)) },
		"Merge with nothing":                    func() []any { return results(event.Merge(rules, api.Rules{})) },
		"Merge of nothing":                      func() []any { return results(event.Merge(api.Rules{}, rules)) },
		"Read":                                  func() []any { return results(event.Read("phase p rule a if x > 1 and (y > 1 or true)")) },
		"Print":                                 func() []any { return results(event.Print(rules)) },
	} {
		first, kept := call(), fmt.Sprint(call()...)
		wantErrno(t, name, first[len(first)-1].(api.Errno), api.OK)
		wantSame(t, name, fmt.Sprint(first...), kept)
		for _, result := range first {
			v := reflect.New(reflect.TypeOf(result)).Elem()
			v.Set(reflect.ValueOf(result))
			at := map[uintptr]int{}
			lists(v, at)
			for _, times := range at {
				wantSame(t, "a list in "+name, times, 1)
			}
			spoil(v)
		}
		wantSame(t, "arguments of "+name, all(), before)
		wantSame(t, name+" again", fmt.Sprint(call()...), kept)
	}
}

// F7: a watch keeps neither what it is made of, nor what it is given, nor what it returns.
func TestWatchMemory(t *testing.T) {
	rules, tracks := busy(t), someTracks(dice(13), 0, 20)
	tracks[0].Name, tracks[1].Name = "x", "y"
	truths, phases := truthsOf(t, rules, tracks, 0, 19), phasesOf(t, rules, tracks, 0, 19)
	inputs := make([][]api.Told, 20)
	for i := range inputs {
		inputs[i] = roomy(inputsOf(t, tracks, i), api.Told{N: -7})
	}
	w := watchOf(t, rules, tracks)
	spoil(reflect.ValueOf(&rules).Elem())
	spoil(reflect.ValueOf(&tracks).Elem())
	for i, x := range inputs {
		given := whole(x)
		got := nextOf(t, w, x)
		wantSame(t, "what is given", whole(x), given)
		wantSame(t, fmt.Sprint("Next ", i), got, column(truths, i))
		wantSame(t, fmt.Sprint("Phase ", i), w.Phase(), phases[i])
		spoil(reflect.ValueOf(&got).Elem())
		spoil(reflect.ValueOf(&x).Elem())
		names := w.Phase()
		spoil(reflect.ValueOf(&names).Elem())
		wantSame(t, fmt.Sprint("Phase ", i, " again"), w.Phase(), phases[i])
	}
}
