package event

import (
	"slices"
	"strconv"

	"orangebox/api"
)

// reader reads rules, token by token. What it cannot read, it throws.
type reader struct {
	text string
	now  token
}

// refusal is what is thrown: the error, and where it is.
type refusal struct {
	at    int
	errno api.Errno
}

// Read reads rules; with an error it returns where that is.
func Read(s string) (r api.Rules, at int, e api.Errno) {
	defer func() {
		if thrown := recover(); thrown != nil {
			x, ok := thrown.(refusal)
			if !ok {
				x = refusal{0, api.ErrState} // no text has this error: it would be a fault of the reader
			}
			r, at, e = api.Rules{}, x.at, x.errno
		}
	}()
	if len(s) > MaxText {
		return api.Rules{}, 0, api.ErrSize
	}
	r = readRules(s)
	if e := Check(r); e != api.OK {
		return api.Rules{}, 0, e
	}
	return r, 0, api.OK
}

func readRules(s string) api.Rules {
	t := reader{text: s, now: tokenBehind(s, 0)}
	var r api.Rules
	for t.skip("phase") {
		r.Phases = append(r.Phases, t.take(nameToken))
	}
	for t.skip("move") {
		from, to := t.take(nameToken), t.take(nameToken)
		r.Moves = append(r.Moves, api.Move{From: from, To: to, When: t.when()})
	}
	for t.skip("rule") {
		name := t.take(nameToken)
		r.Rules = append(r.Rules, api.Rule{Name: name, When: t.when()})
	}
	t.take(endToken)
	return r
}

// refuse throws an error of the token that is read now.
func (t *reader) refuse(e api.Errno) {
	panic(refusal{t.now.at, e})
}

// take goes on behind a token of a kind, and returns its text.
func (t *reader) take(kind int) string {
	if t.now.kind != kind {
		t.refuse(api.ErrSyntax)
	}
	text := t.now.text
	t.now = tokenBehind(t.text, t.now.at+len(text))
	return text
}

// skip goes on behind a word or a sign, if it is there.
func (t *reader) skip(text string) bool {
	if t.now.text != text {
		return false
	}
	t.take(t.now.kind)
	return true
}

func (t *reader) expect(text string) {
	if !t.skip(text) {
		t.refuse(api.ErrSyntax)
	}
}

func (t *reader) number() int {
	n, _ := strconv.Atoi(t.take(numberToken)) // its digits are few enough for an int
	return n
}

func (t *reader) when() api.Cond {
	t.expect("if")
	return t.cond(0)
}

// cond reads a COND inside of so many PARTs.
func (t *reader) cond(around int) api.Cond {
	return t.chain(api.CondOr, func() api.Cond {
		return t.chain(api.CondAnd, func() api.Cond { return t.part(around) })
	})
}

// chain reads one condition, or several ones with the word of a kind between them.
func (t *reader) chain(kind int, read func() api.Cond) api.Cond {
	r, _ := rowOf(kind)
	kids := []api.Cond{read()}
	for t.skip(r.word) {
		kids = append(kids, read())
	}
	if len(kids) == 1 {
		return kids[0]
	}
	return api.Cond{Kind: kind, Kids: kids}
}

// part reads a PART inside of so many other ones.
func (t *reader) part(around int) api.Cond {
	kind, ok := kindFor(t.now)
	isName, isGroup := t.now.kind == nameToken, t.now.text == "("
	if !ok && !isName && !isGroup {
		t.refuse(api.ErrSyntax)
	}
	if around >= MaxNest {
		t.refuse(api.ErrSize)
	}
	if isName {
		return t.comparison()
	}
	if isGroup {
		return t.group(around + 1)
	}
	return t.form(kind, around+1)
}

func (t *reader) comparison() api.Cond {
	name := t.take(nameToken)
	all := signs()
	op := slices.Index(all[:], t.now.text)
	if op < api.Less {
		t.refuse(api.ErrSyntax)
	}
	t.take(signToken)
	if t.now.kind == nameToken {
		return api.Cond{Kind: api.CondTracks, Name: name, Op: op, Other: t.take(nameToken)}
	}
	return api.Cond{Kind: api.CondNumber, Name: name, Op: op, N: t.number()}
}

func (t *reader) group(around int) api.Cond {
	t.expect("(")
	c := t.cond(around)
	t.expect(")")
	return c
}

// form reads what begins with the word of a kind.
func (t *reader) form(kind, around int) api.Cond {
	r, _ := rowOf(kind)
	c := api.Cond{Kind: kind}
	t.expect(r.word)
	if r.name {
		c.Name = t.take(nameToken)
	}
	if r.n {
		c.N = t.number()
	}
	if kind == api.CondCount {
		t.expect("of")
	}
	if r.frames {
		c.Frames = t.number()
	}
	for range r.kids {
		c.Kids = append(c.Kids, t.part(around))
	}
	return c
}

// kindFor returns the kind of conditions that begins with a token, if that is a word for one.
func kindFor(t token) (int, bool) {
	for kind := api.CondTrue; t.kind == wordToken; kind++ {
		r, ok := rowOf(kind)
		if !ok {
			return 0, false
		}
		if r.word == t.text && !r.more {
			return kind, true
		}
	}
	return 0, false
}
