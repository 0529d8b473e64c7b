package event_test

import (
	"math/rand/v2"
	"slices"
	"strconv"
	"strings"
	"testing"

	"orangebox/api"
	"orangebox/event"
	"orangebox/series"
)

func printed(t *testing.T, r api.Rules) string {
	t.Helper()
	text, e := event.Print(r)
	wantErrno(t, "Print", e, api.OK)
	return text
}

func wantRead(t *testing.T, text string, want api.Rules) {
	t.Helper()
	r, at, e := event.Read(text)
	wantErrno(t, strconv.Quote(text), e, api.OK)
	wantSame(t, "offset of "+strconv.Quote(text), at, 0)
	wantSame(t, strconv.Quote(text), r, want)
}

func wantRefused(t *testing.T, text string, at int, want api.Errno) {
	t.Helper()
	r, n, e := event.Read(text)
	if n != at || e != want {
		t.Errorf("%.200q: error %d at %d, want %d at %d", text, e, n, want, at)
	}
	wantNothing(t, text, r)
}

// conditions has texts as Print writes them.
func conditions() map[string]api.Cond {
	x, y := over(), number("y", api.Less, -5)
	return map[string]api.Cond{
		"true":                           always(),
		"false":                          never(),
		"x < 0":                          number("x", api.Less, 0),
		"x <= -1":                        number("x", api.AtMost, -1),
		"x = 1125899906842624":           number("x", api.Equal, series.MaxN),
		"x != -1125899906842624":         number("x", api.Differs, -series.MaxN),
		"x >= 10":                        number("x", api.AtLeast, 10),
		"x > y":                          tracksAre("x", api.Greater, "y"),
		"x = x":                          tracksAre("x", api.Equal, "x"),
		"steady x 5 4096":                steady("x", 5, 4096),
		"phase p":                        inPhase("p"),
		"rule q":                         ofRule("q"),
		"not x > 0":                      not(x),
		"not not not true":               not(not(not(always()))),
		"for 3 x > 0":                    inAll(3, x),
		"within 3 x > 0":                 within(3, x),
		"count 2 of 3 x > 0":             countOf(2, 3, x),
		"rises x > 0":                    rises(x),
		"since x > 0 y < -5":             since(x, y),
		"since rises x > 0 not y < -5":   since(rises(x), not(y)),
		"since since true false rule q":  since(since(always(), never()), ofRule("q")),
		"since phase p rule q":           since(inPhase("p"), ofRule("q")),
		"x > 0 and y < -5":               both(x, y),
		"x > 0 and y < -5 and true":      both(x, y, always()),
		"x > 0 or y < -5 or false":       either(x, y, never()),
		"x > 0 and y < -5 or true":       either(both(x, y), always()),
		"true or x > 0 and y < -5":       either(always(), both(x, y)),
		"x > 0 and (y < -5 or true)":     both(x, either(y, always())),
		"(x > 0 and y < -5) and true":    both(both(x, y), always()),
		"x > 0 and (y < -5 and true)":    both(x, both(y, always())),
		"(x > 0 or y < -5) or true":      either(either(x, y), always()),
		"x > 0 or (y < -5 or true)":      either(x, either(y, always())),
		"not (x > 0 and y < -5)":         not(both(x, y)),
		"not (x > 0 or y < -5)":          not(either(x, y)),
		"not x > 0 and y < -5":           both(not(x), y),
		"for 3 (x > 0 or y < -5)":        inAll(3, either(x, y)),
		"within 1 (x > 0 and y < -5)":    within(1, both(x, y)),
		"count 1 of 1 (x > 0 or y < -5)": countOf(1, 1, either(x, y)),
		"rises (x > 0 and y < -5)":       rises(both(x, y)),
		"since (x > 0 and y < -5) (y < -5 or x > 0)":       since(both(x, y), either(y, x)),
		"for 2 within 3 not since x > 0 rises y < -5":      inAll(2, within(3, not(since(x, rises(y))))),
		"((x > 0 or true) and y < -5) and (true or x > 0)": both(both(either(x, always()), y), either(always(), x)),
	}
}

// F6: both ways.
func TestPrintAndRead(t *testing.T) {
	wantSame(t, "nothing", printed(t, api.Rules{}), "")
	wantRead(t, "", api.Rules{})
	for text, c := range conditions() {
		r := api.Rules{Phases: []string{"p"}, Rules: []api.Rule{{Name: "q", When: always()}, {Name: "r", When: c}}}
		whole := "phase p\nrule q if true\nrule r if " + text + "\n"
		wantSame(t, text, printed(t, r), whole)
		wantRead(t, whole, r)
		spaced := "\t#\n" + strings.ReplaceAll(strings.NewReplacer("(", " ( ", ")", " ) ").Replace(whole), " ", " \r\n\t# if true ) \n ") + "#"
		wantRead(t, spaced, r)
		tight := strings.NewReplacer(" (", "(", ") ", ")", " <", "<", " >", ">", " =", "=", " !", "!", "< ", "<", "> ", ">", "= ", "=").Replace(whole)
		wantRead(t, tight, r)
		wantRead(t, strings.TrimSpace(whole), r)
	}
	text := "phase ground\nphase climb\nphase level\nmove ground climb if alt > 10\nmove climb level if steady alt 5 8\nrule high if alt > 100\nrule fast if speed > limit\nrule both if rule high and rule fast and not phase ground\n"
	wantSame(t, "flying", printed(t, flying()), text)
	wantRead(t, text, flying())
}

// F6: parentheses that are not needed, and names that are nearly words.
func TestReadForms(t *testing.T) {
	x, y := over(), number("y", api.Less, -5)
	for text, c := range map[string]api.Cond{
		"(x > 0)":                        x,
		"(((x > 0)))":                    x,
		"((x > 0) and (y < -5))":         both(x, y),
		"(x > 0 and y < -5) or true":     either(both(x, y), always()),
		"not(x>0)and(y<-5)":              both(not(x), y),
		"since(x>0)(y<-5)":               since(x, y),
		"for 2(x>0 or y<-5)":             inAll(2, either(x, y)),
		"not (not (not (true)))":         not(not(not(always()))),
		"x>0#":                           x,
		"x>0# or true\nor y<-5":          either(x, y),
		"x#>\n#\n#0\r\n>\t0":             x,
		"phases > 0":                     number("phases", api.Greater, 0),
		"x->-5":                          number("x-", api.Greater, -5),
		"x-1 > 0":                        number("x-1", api.Greater, 0),
		"x--->0":                         number("x---", api.Greater, 0),
		strings.Repeat("a", 30) + " = b": tracksAre(strings.Repeat("a", 30), api.Equal, "b"),
		"steady x 1125899906842624 1":    steady("x", series.MaxN, 1),
		"x=0":                            number("x", api.Equal, 0),
	} {
		wantRead(t, "rule r if "+text, ruled(c))
	}
	wantRead(t, "phase a phase b move a b if x>0 move b a if y<-5 rule r if x>0", api.Rules{
		Phases: []string{"a", "b"}, Moves: []api.Move{{From: "a", To: "b", When: x}, {From: "b", To: "a", When: y}}, Rules: []api.Rule{{Name: "r", When: x}},
	})
	wantRead(t, "phase a#phase b\r", api.Rules{Phases: []string{"a"}})
	for _, name := range rightNames() {
		wantRead(t, "phase "+name+" rule "+name+" if "+name+">0 and phase "+name, api.Rules{
			Phases: []string{name}, Rules: []api.Rule{{Name: name, When: both(number(name, api.Greater, 0), inPhase(name))}},
		})
	}
}

// wantSyntax wants the error where the only mark | stands in a text.
func wantSyntax(t *testing.T, marked string) {
	t.Helper()
	ahead, behind, ok := strings.Cut(marked, "|")
	if !ok || strings.Contains(behind, "|") {
		t.Fatalf("marks of %q", marked)
	}
	wantRefused(t, ahead+behind, len(ahead), api.ErrSyntax)
}

// F6: phases, moves and rules that cannot be.
func TestReadSyntax(t *testing.T) {
	long := strings.Repeat("a", 31)
	for _, text := range []string{
		"|x", "|if", "|5", "|(", "|)", "|true", "|and", "|>", "|$", "|P", "|\x00", "|\u00e4", "|-", "|!", "|=", "|=>", "#\n|?", "# ?\n |?", "|\v", "|\f", "|\u00a0", "|\"", "|" + long,
		"phase|", "phase |", "phase #a|", "phase #a\n|", "phase |phase a", "phase |5", "phase |A", "phase a|A", "phase a|_", "phase |1a", "phase |-a", "phase |(", "phase a |b", "phase a |if", "phase a |(", "phase |" + long, "phase " + long[1:] + "|A", "phase a|\x00",
		"move|", "move a|", "move a b|", "move a b if|", "move a b |x > 1", "move a b if x > 1 |phase c", "move a b if x > 1 |c", "move a b |c if true", "move a |5 if true", "move a b if |move a b if true",
		"rule|", "rule a|", "rule a if|", "rule a |b if true", "rule a |true", "rule a |(true)",
		"rule a if true |phase b", "rule a if true |move a b if true", "rule a if true |if", "rule a if true |true", "rule a if true |)", "rule a if true |x", "rule a if true |not true", "rule a if true |5", "rule a if true |steady x 1 1", "rule a if true |of", "rule a if true rule|",
		"rule a if true |$ rule b", "rule a if true # \n|$", "rule a if true #\r$\n\r\t |,", "rule a if true|\x00", "rule a if true0 |rule b", "rule a if true|\xff", "rule a if true |\"", "rule a if x > y\n|$",
	} {
		wantSyntax(t, text)
	}
	for _, word := range words() {
		wantSyntax(t, "phase |"+word)
		wantSyntax(t, "move |"+word+" a if true")
		wantSyntax(t, "move a |"+word+" if true")
		wantSyntax(t, "rule |"+word+" if true")
		if word != "if" {
			wantSyntax(t, "rule a |"+word+" true")
		}
		if word != "or" && word != "and" && word != "rule" {
			wantSyntax(t, "rule a if true |"+word+" x < 1")
		}
	}
}

// F6: conditions that cannot be.
func TestReadCondSyntax(t *testing.T) {
	for _, text := range []string{
		"|and", "|or", "|of", "|if", "|move", "|5", "|-5 < x", "|)", "|>", "|=", "|?", "(|)", "|True", "|05 > x",
		"x|", "x |5", "x |y", "x |and", "x |(", "x |)", "x |!", "x |! = 5", "x |? 5", "x|_y", "x |~= 5", "x |true", "x |-5", "x |\x00>5", "tru|E",
		"x >|", "x > |", "x > |> 5", "x > |= 5", "x = |= 5", "x = |< 5", "x =|> 5", "x <|> 5", "x !=|= 5", "x >=|= 5", "x < |true", "x < |not", "x < |(5)", "x < |)", "x < |- 5", "x < |+5", "x < |Y", "x < |and", "x < |count",
		"x < |05", "x < |00", "x < |-0", "x < |-00", "x < |-05", "x < |--5", "x < |5-", "x < |5x", "x < |0x5", "x < |1-2", "x < 1|.5", "x < 1|_000", "x < |10000000000000000", "x < |-10000000000000000", "x < |9999999999999999999999999999999999999999", "x < |5and true", "x < 5 |5", "x < 5 |x", "x < 5 |< 6", "x < y |< z",
		"steady|", "steady |5", "steady |true", "steady x|", "steady x |y", "steady x |> 5", "steady x 5|", "steady x 5 |x > 1", "steady x 5 |and", "steady x 5 |of 6", "steady x 5 6 |7", "steady x 5 6 |x > 1", "steady x |05 6", "steady x 5 |-0",
		"phase|", "phase |5", "phase |phase", "phase |(b)", "phase b |> 5", "phase b |c", "rule|", "rule |true", "rule b |> 5", "rule b |of",
		"not|", "not |and", "not |5", "not |)", "not rules|", "not not|", "not x > 5 |x",
		"for|", "for |x > 1", "for |true", "for 5|", "for 5 |5", "for 5 |and", "for 5 |of", "for |05 true", "within |true", "within 5|", "within 5 |or", "within |(5) true",
		"count|", "count 5|", "count 5 |5", "count 5 |x > 1", "count 5 of|", "count 5 of |of", "count 5 of |true", "count 5 of 6|", "count 5 of 6 |of", "count |of 6 true", "count 5 |off 6 true", "count |x > 1",
		"rises|", "rises |or", "rises rises|", "since|", "since true|", "since true |and true", "since true |or", "since true |)", "since true true |true", "since |, true true",
		"(|", "(true|", "(true |rule", "(true |rule b if true", "(true |5", "(true) |)", "((true)|", "(true and|", "(true |(", "(|and true)", "(x > 1 |y", "(x > |)", "true |(true)", "(true) |(true)",
		"true and|", "true or|", "true and |and", "true or |and true", "true and |or", "true and true or|", "true and rule|", "true and |5", "true and |)", "true or phases|", "true |of",
		"x < 9999999999999999 |x", "for 0 true |x", "phase b |b", "x = 5 rule b if rule |of",
	} {
		wantSyntax(t, "rule a if "+text)
		wantSyntax(t, "rule a if x < y or true and "+text)
		wantSyntax(t, "phase p\nphase p\nmove p q if rule x\nrule a if for 0 true\nrule a if "+text)
	}
}

// grammar says what a symbol becomes, by the token that stands there. Symbols in capitals are kinds of tokens.
func grammar(symbol, token string) (becomes []string, ok bool) {
	rules := map[string]map[string]string{
		"phases":  {"phase": "phase NAME phases", "": "moves"},
		"moves":   {"move": "move NAME NAME if cond moves", "": "rules"},
		"rules":   {"rule": "rule NAME if cond rules", "": "END"},
		"cond":    {"": "part conds"},
		"conds":   {"and": "and part conds", "or": "or part conds", "": ""},
		"operand": {"NAME": "NAME", "NUMBER": "NUMBER"},
		"part": {
			"true": "true", "false": "false", "NAME": "NAME OP operand", "steady": "steady NAME NUMBER NUMBER", "phase": "phase NAME", "rule": "rule NAME", "not": "not part",
			"for": "for NUMBER part", "within": "within NUMBER part", "count": "count NUMBER of NUMBER part", "rises": "rises part", "since": "since part part", "(": "( cond )",
		},
	}
	l, known := rules[symbol]
	if !known {
		return nil, false
	}
	for _, key := range []string{token, ""} {
		if text, ok := l[key]; ok {
			return strings.Fields(text), true
		}
	}
	return nil, false
}

// refusedAt returns the first of some tokens that cannot stand where it stands, or -1. The last symbol of the stack comes next.
func refusedAt(tokens []string) int {
	stack := []string{"phases"}
	for i, token := range append(tokens, "END") {
		kind := kindOf(token)
		for {
			top := stack[len(stack)-1]
			stack = stack[:len(stack)-1]
			if top == kind {
				break
			}
			becomes, ok := grammar(top, kind)
			if !ok {
				return i
			}
			for k := range becomes {
				stack = append(stack, becomes[len(becomes)-1-k])
			}
		}
	}
	return -1
}

// kindOf returns what stands for a token in the grammar.
func kindOf(token string) string {
	switch {
	case slices.Contains([]string{"<", "<=", "=", "!=", ">=", ">"}, token):
		return "OP"
	case token[0] == '-' || token[0] >= '0' && token[0] <= '9':
		return "NUMBER"
	case len(token) == 1 && token[0] >= 'a':
		return "NAME"
	}
	return token
}

// F6: texts of any tokens, and texts that are nearly right, held against the grammar.
func TestReadTokens(t *testing.T) {
	tokens := append(words(), "(", ")", "<", "<=", "=", "!=", ">=", ">", "0", "-1", "5", "x", "y", "NONE")
	r := dice(6)
	for range 20000 {
		var l []string
		if r.IntN(2) == 0 {
			l = strings.Fields("rule a if")
		}
		if r.IntN(2) == 0 {
			l = tokensOf(printed(t, someRules(r, 4, 9)))
			for range r.IntN(3) {
				if i := r.IntN(len(l) + 1); i < len(l) {
					l[i] = pick(r, tokens...)
				}
			}
		}
		for range r.IntN(10) {
			l = append(l, pick(r, tokens...))
		}
		wantTokens(t, r, l)
	}
}

// tokensOf takes apart what Print has written.
func tokensOf(text string) []string {
	return strings.Fields(strings.NewReplacer("(", " ( ", ")", " ) ", "r0", "a", "r1", "b", "r2", "c", "r3", "d", "r4", "e").Replace(text))
}

func wantTokens(t *testing.T, r *rand.Rand, tokens []string) {
	t.Helper()
	var text strings.Builder
	var at []int
	for _, token := range tokens {
		at = append(at, text.Len())
		text.WriteString(strings.ReplaceAll(token, "NONE", "?") + pick(r, " ", "  ", "\n", "\t", "\r", "#?\n"))
	}
	at = append(at, text.Len())
	_, n, e := event.Read(text.String())
	first := refusedAt(tokens)
	if (first >= 0) != (e == api.ErrSyntax) || first >= 0 && n != at[first] || first < 0 && n != 0 {
		t.Fatalf("%q: error %d at %d, first %d of %v", text.String(), e, n, first, at)
	}
}

// F6: PARTs in PARTs, of which each one has the next one within it.
func TestReadNest(t *testing.T) {
	for _, c := range []struct {
		ahead, behind string
		first         int // where the first PART in it is
	}{
		{"not ", "", 4}, {"(", ")", 1}, {"rises ", "", 6}, {"for 1 ", "", 6}, {"within 1 ", "", 9}, {"count 1 of 1 ", "", 13}, {"since true ", "", 6}, {"(false or ", ")", 1}, {"(x > 1 and true and ", ")", 1},
	} {
		text := func(parts int) string {
			return "rule a if " + strings.Repeat(c.ahead, parts) + "true" + strings.Repeat(c.behind, parts)
		}
		want := api.ErrSize // by Check, for the levels
		if c.ahead == "(" {
			want = api.OK
		}
		wantErrnoAt(t, text(event.MaxNest-1), 0, want)
		at := len("rule a if ") + len(c.ahead)*(event.MaxNest-1) + c.first
		wantErrnoAt(t, text(event.MaxNest), at, api.ErrSize)
		wantErrnoAt(t, text(event.MaxNest)+"$", at, api.ErrSize)
		wantErrnoAt(t, text(5000), at, api.ErrSize)
	}
	inside := strings.Repeat("(", event.MaxNest)
	for _, wrong := range []string{")", "and", "of", "5", "?", "> 5", ""} {
		wantErrnoAt(t, "rule a if "+inside+wrong, 10+event.MaxNest, api.ErrSyntax)
	}
	for _, part := range []string{"true", "x", "x ?", "not", "for x", "((", "(", "phase 5", "since"} {
		wantErrnoAt(t, "rule a if "+inside+part, 10+event.MaxNest, api.ErrSize)
	}
	wantErrnoAt(t, "rule a if ? "+inside+"true", 10, api.ErrSyntax)
	wantErrnoAt(t, "rule a if true and "+inside[1:]+"true"+strings.Repeat(")", event.MaxNest-1), 0, api.OK)
	side := strings.Repeat("(", event.MaxNest-1) + "true" + strings.Repeat(")", event.MaxNest-1)
	wantErrnoAt(t, "rule a if "+side+" and "+side+" or "+side+" rule b if "+side, 0, api.OK)
}

func wantErrnoAt(t *testing.T, text string, at int, want api.Errno) {
	t.Helper()
	if _, n, e := event.Read(text); n != at || e != want {
		t.Errorf("%.100q: error %d at %d, want %d at %d", text, e, n, want, at)
	}
}

// F6: Check's errors come last, at 0.
func TestReadCheck(t *testing.T) {
	for text, want := range map[string]api.Errno{
		"phase p phase p":                                  api.ErrTwice,
		"phase p move p q if true":                         api.ErrNone,
		"phase p move p p if phase p":                      api.ErrForm,
		"rule a if rule a":                                 api.ErrNone,
		"rule a if phase a":                                api.ErrNone,
		"rule a if true rule a if true":                    api.ErrTwice,
		"rule a if for 0 true":                             api.ErrRange,
		"rule a if for -1 true":                            api.ErrRange,
		"rule a if within 4097 true":                       api.ErrRange,
		"rule a if within 9999999999999999 true":           api.ErrRange,
		"rule a if count 3 of 2 true":                      api.ErrRange,
		"rule a if count 0 of 2 true":                      api.ErrRange,
		"rule a if count -1 of -1 true":                    api.ErrRange,
		"rule a if steady x -1 5":                          api.ErrRange,
		"rule a if steady x 1 0":                           api.ErrRange,
		"rule a if x < 1125899906842625":                   api.ErrRange,
		"rule a if x < -1125899906842625":                  api.ErrRange,
		"rule a if x < 9999999999999999":                   api.ErrRange,
		"rule a if x < -9999999999999999":                  api.ErrRange,
		"rule a if " + strings.Repeat("not ", 20) + "x=1":  api.ErrSize,
		"rule a if true" + strings.Repeat(" or true", 199): api.ErrSize,
		strings.Repeat("phase p ", 21):                     api.ErrSize,
		strings.Repeat("move p p if x>1 ", 61):             api.ErrSize,
		strings.Repeat("rule a if x>1 ", 61):               api.ErrSize,
	} {
		wantRefused(t, text, 0, want)
		wantRefused(t, text+" $", len(text)+1, api.ErrSyntax)
	}
	wantErrnoAt(t, "rule a if true"+strings.Repeat(" or true", 198), 0, api.OK)
	wantErrnoAt(t, "rule a if "+strings.Repeat("not ", 19)+"x=1", 0, api.OK)
}

// F6: so many bytes are permitted, more are not, whatever they are.
func TestTextSize(t *testing.T) {
	wantErrnoAt(t, strings.Repeat(" ", event.MaxText), 0, api.OK)
	wantErrnoAt(t, strings.Repeat(" ", event.MaxText+1), 0, api.ErrSize)
	wantErrnoAt(t, strings.Repeat("#", event.MaxText), 0, api.OK)
	wantErrnoAt(t, strings.Repeat(" ", event.MaxText-1)+"?", event.MaxText-1, api.ErrSyntax)
	wantErrnoAt(t, "?"+strings.Repeat(" ", event.MaxText), 0, api.ErrSize)
	wantErrnoAt(t, "rule a if true"+strings.Repeat(" and true", 22220), 0, api.ErrSize)
	wantErrnoAt(t, strings.Repeat("a", event.MaxText), 0, api.ErrSyntax)
	wantErrnoAt(t, strings.Repeat("(", event.MaxText), 0, api.ErrSyntax)
	most := api.Rules{}
	for _, name := range numbered("r", 57) {
		most.Rules = append(most.Rules, api.Rule{Name: name, When: filling(3400)})
	}
	short := event.MaxText - len(printed(t, most)) - len("rule s if x < 1\n")
	most.Rules = append(most.Rules, api.Rule{Name: "s", When: filling(short)})
	text := printed(t, most)
	wantSame(t, "bytes", len(text), event.MaxText)
	wantRead(t, text, most)
	wantRefused(t, text+" ", 0, api.ErrSize)
	most.Rules[57].Name = "ss"
	wantWrong(t, "one byte more", results(event.Print(most)), api.ErrSize)
}

// filling returns a condition whose text has so many bytes more than x < 1.
func filling(more int) api.Cond {
	name := strings.Repeat("a", 30)
	l := []api.Cond{number("x", api.Less, 1)}
	for ; more > 68+29; more -= 68 {
		l = append(l, tracksAre(name, api.Less, name))
	}
	for ; more > 29; more -= len(" and true") {
		l = append(l, always())
	}
	l[0].Name = strings.Repeat("x", 1+more)
	return both(l...)
}

// F6: Read makes of Print the same rules.
func TestReadOfPrint(t *testing.T) {
	r := dice(7)
	for range 3000 {
		rules := someRules(r, 6, event.MaxFrames)
		wantRead(t, printed(t, rules), rules)
	}
	wantRead(t, printed(t, full()), full())
	deep := either(over(), over())
	for range event.MaxLevels/2 - 1 {
		deep = not(both(deep, over()))
	}
	wantRead(t, printed(t, ruled(deep)), ruled(deep))
	wantRead(t, printed(t, ruled(wide(event.MaxNodes))), ruled(wide(event.MaxNodes)))
}

// F6: bytes of any kind are read or refused.
func TestReadAny(t *testing.T) {
	r := dice(8)
	for range 3000 {
		b := []byte(printed(t, someRules(r, 4, 9)))
		for range 1 + r.IntN(3) {
			if i := r.IntN(len(b) + 1); i < len(b) {
				b[i] = pick(r, byte(r.IntN(256)), ' ', '(', '-', '0', 'a')
			}
		}
		rules, at, e := event.Read(string(b))
		if e == api.OK {
			wantErrno(t, string(b), event.Check(rules), api.OK)
			wantRead(t, printed(t, rules), rules)
			continue
		}
		wantNothing(t, string(b), rules)
		if e == api.ErrSyntax && (at < 0 || at > len(b)) || e != api.ErrSyntax && at != 0 {
			t.Errorf("%q: error %d at %d", b, e, at)
		}
	}
}
