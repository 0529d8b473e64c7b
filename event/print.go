package event

import (
	"strconv"
	"strings"

	"orangebox/api"
)

// Print writes rules.
func Print(r api.Rules) (string, api.Errno) {
	if e := Check(r); e != api.OK {
		return "", e
	}
	var out strings.Builder
	for _, phase := range r.Phases {
		writeLine(&out, "phase", phase)
	}
	for _, m := range r.Moves {
		writeLine(&out, "move", m.From, m.To, "if", textOf(m.When))
	}
	for _, x := range r.Rules {
		writeLine(&out, "rule", x.Name, "if", textOf(x.When))
	}
	if out.Len() > MaxText {
		return "", api.ErrSize
	}
	return out.String(), api.OK
}

func writeLine(out *strings.Builder, words ...string) {
	out.WriteString(strings.Join(words, " "))
	out.WriteByte('\n')
}

// textOf wants a condition without errors.
func textOf(c api.Cond) string {
	r, _ := rowOf(c.Kind)
	kids := each(c.Kids, func(kid api.Cond) string { return textIn(c.Kind, kid) })
	if r.more {
		return strings.Join(kids, " "+r.word+" ")
	}
	if r.op {
		return strings.Join([]string{c.Name, signs()[c.Op], operand(c)}, " ")
	}
	words := []string{r.word}
	if r.name {
		words = append(words, c.Name)
	}
	if r.n {
		words = append(words, strconv.Itoa(c.N))
	}
	if c.Kind == api.CondCount {
		words = append(words, "of")
	}
	if r.frames {
		words = append(words, strconv.Itoa(c.Frames))
	}
	return strings.Join(append(words, kids...), " ")
}

// textIn returns the text of a kid of a condition of some kind. Only in a CondOr it can be a CondAnd without parentheses.
func textIn(kind int, kid api.Cond) string {
	if kid.Kind == api.CondOr || kid.Kind == api.CondAnd && kind != api.CondOr {
		return "(" + textOf(kid) + ")"
	}
	return textOf(kid)
}

// operand returns with what a track is compared.
func operand(c api.Cond) string {
	if c.Kind == api.CondTracks {
		return c.Other
	}
	return strconv.Itoa(c.N)
}

// signs returns the signs for comparisons, at their places.
func signs() [api.Greater + 1]string {
	return [...]string{api.Less: "<", api.AtMost: "<=", api.Equal: "=", api.Differs: "!=", api.AtLeast: ">=", api.Greater: ">"}
}
