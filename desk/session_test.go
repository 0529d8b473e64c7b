package desk_test

import (
	"fmt"
	"math/rand/v2"
	"strconv"
	"strings"
	"testing"

	"orangebox/api"
	"orangebox/desk"
	"orangebox/finding"
	"orangebox/layout"
	"orangebox/ring"
	"orangebox/salvage"
	"orangebox/series"
)

func block(first, text string) string {
	return first + "\n" + text + "end\n"
}

// lineOf writes numbers.
func lineOf(l []int) string {
	var words []string
	for _, n := range l {
		words = append(words, strconv.Itoa(n))
	}
	return strings.Join(words, " ") + "\n"
}

// caseSession makes someCase, without twins, two memories, and a recording of two superframes.
func caseSession() string {
	return block("map", mapText) + block("sources", sourcesText) + block("rules", rulesText) + "memory 2 20 5\nmemory 2 24 5\n" +
		block("record 16", lineOf(superValues(1, 2))+lineOf(superValues(5, 1)))
}

func wantSession(t *testing.T, name, script, want string) {
	t.Helper()
	wantText(t, name, desk.Session(script), want)
}

func wantDo(t *testing.T, d *desk.Desk, command, want string) {
	t.Helper()
	wantText(t, fmt.Sprintf("Do of %.80q", command), d.Do(command), want)
}

// doAll executes commands that must all be right.
func doAll(t *testing.T, d *desk.Desk, script string) {
	t.Helper()
	l, e := desk.Commands(script)
	wantErrno(t, "Commands", e, api.OK)
	for _, c := range l {
		if answer := d.Do(c); !strings.HasPrefix(answer, "ok") {
			t.Fatalf("Do of %.80q: %.80q", c, answer)
		}
	}
}

func flownDesk(t *testing.T) *desk.Desk {
	t.Helper()
	d := desk.New()
	doAll(t, d, caseSession()+"cut 1000 2001 3000\nflip 1 20 5\nlose 2\nsalvage\n")
	return d
}

// asked is what a desk answers to all commands that ask the book.
func asked(d *desk.Desk) string {
	answers := ""
	for _, command := range []string{
		"gaps", "seconds", "show 2", "show 3", "show 4", "show 5", "series alt", "series speed", "series g", "series flaps",
		"truth high 16 26", "truth fast 16 40", "truth never 20 25", "evidence high 16 26", "evidence never 16 30", "report 0 50",
	} {
		answers += command + "\n" + d.Do(command)
	}
	return answers
}

// J6: what a desk has at the beginning.
func TestNewDesk(t *testing.T) {
	wantSession(t, "no commands", "", "")
	wantSession(t, "no memories", "salvage", "error 3\n")
	wantSession(t, "no book", "gaps\nseconds\nshow 0\nseries a\ntruth a 0 0\nevidence a 0 0\nreport 0 0\nshow 999999999\nseries A\nreport 9 0", strings.Repeat("error 13\n", 10))
	wantSession(t, "no case", "memory 2 20 10\nrecord 0\n\n\nend\nsalvage\ngaps\nseconds\nshow 0\nreport 0 9\nseries a\ntruth a 0 0\nevidence a 0 0\n", "ok\nok 32\nok 32\nok\nok\nok\nframes 0 9\nok\nerror 4\nerror 4\nerror 4\n")
	wantSession(t, "no blocks", "map\nend\nsources\nend\nrules\nend\nrecord 0\nend\n", "error 6\nok\nok\nerror 3\n")
	wantSession(t, "a block without an end", "memory 2 4 10\nmap\nmap 7\n", "error 2\n")
	wantSession(t, "many lines", strings.Repeat("gaps\n", desk.MaxLines+1), "error 3\n")
	wantSession(t, "empty lines", "\n\ngaps\n\n", "error 6\nerror 6\nerror 13\nerror 6\n")
}

func gapLines(t *testing.T, b api.Book) string {
	t.Helper()
	l, e := salvage.Gaps(b.Rests)
	wantErrno(t, "Gaps", e, api.OK)
	s := ""
	for _, g := range l {
		s += fmt.Sprintln(g.From, g.To)
	}
	return s
}

// J6: each command that asks the book tells what the functions tell.
func TestAsking(t *testing.T) {
	d := flownDesk(t)
	c := someCase(t)
	c.Twins = nil
	m := stored(t, recorded(t, c, 16, superValues(1, 2), superValues(5, 1)), 1, memory(t, 2, 20), memory(t, 2, 24))
	b := readOf(t, c, crashed(t, m, []int{1000, 2001, 3000}, []int{2}, api.Flip{Piece: 1, Half: 20, Bits: 5}))
	wantDo(t, d, "salvage", fmt.Sprintf("ok %d\n", len(b.Rests)))
	wantDo(t, d, "gaps\n", gapLines(t, b)+"ok\n")
	wantDo(t, d, "seconds\n", strings.TrimPrefix(lineOf(secondsOf(t, b)), "\n")+"ok\n")
	for first := 0; first < 44; first += 6 {
		wantDo(t, d, fmt.Sprint("report ", first, " 50"), plainReport(t, c, b, first, 50)+"ok\n")
		for _, rule := range c.Rules.Rules {
			truth, e := finding.Truth(b, c.Rules, rule.Name, first, 45)
			wantErrno(t, "Truth", e, api.OK)
			wantDo(t, d, fmt.Sprint("truth ", rule.Name, " ", first, " 45\n"), "ok "+[]string{"unknown", "false", "true"}[truth]+"\n")
			f, e := finding.Evidence(b, c.Rules, rule.Name, first, 45)
			want := fmt.Sprintf("error %d\n", e)
			if e == api.OK {
				want, _ = finding.Tell(b, f)
				want += "ok\n"
			}
			wantDo(t, d, fmt.Sprint("evidence ", rule.Name, " ", first, " 45"), want)
		}
	}
	tracks, e := finding.Tracks(b)
	wantErrno(t, "Tracks", e, api.OK)
	for _, x := range tracks {
		s, e := series.Print(x.Series)
		wantErrno(t, "Print", e, api.OK)
		wantDo(t, d, "series "+x.Name, s+"ok\n")
	}
	for second := range 10 {
		wantDo(t, d, fmt.Sprint("show ", second), shownLines(t, b, second)+"ok\n")
	}
}

func shownLines(t *testing.T, b api.Book, second int) string {
	t.Helper()
	s := ""
	for _, x := range plainShow(t, b, second) {
		for _, k := range x.Samples {
			s += fmt.Sprint(x.Track, " ", k.At, " ", []string{"lost", "wrong", "doubtful", "mended", "good"}[k.Mark])
			if k.Mark >= api.MarkDoubtful {
				s += fmt.Sprint(" ", k.N)
			}
			s += "\n"
		}
	}
	return s
}

// J6: the seconds are told in a line.
func TestSecondsInALine(t *testing.T) {
	wantSession(t, "seconds", caseSession()+"salvage\nseconds\nseries z\nshow 524288\ntruth z 0 0\ntruth high 5 4\nevidence z 0 0\nevidence fast 40 40\nreport 5 4\nreport 0 2000\n",
		"ok\nok\nok\nok\nok\nok 32\nok 34\n2 3 4 5\nok\nerror 4\nerror 9\nerror 4\nerror 9\nerror 4\nerror 11\nerror 9\nerror 3\n")
}

// J6: errors of the commands that change something; nothing changes then.
func TestRefusedCommands(t *testing.T) {
	for command, want := range map[string]api.Errno{
		block("map", ""):                                           api.ErrSyntax,
		block("map", "map 7\nx\n"):                                 api.ErrSyntax,
		block("map", "map 2048\n"):                                 api.ErrRange,
		block("sources", "alt speed\n"):                            api.ErrSyntax,
		block("sources", "alt speed 63 \n"):                        api.ErrSyntax,
		block("sources", "alt Speed 63\n"):                         api.ErrName,
		block("sources", "alt none 63\n"):                          api.ErrNone,
		block("sources", "a speed 1\na g 1\n"):                     api.ErrTwice,
		block("rules", "rule\n"):                                   api.ErrSyntax,
		block("rules", "rule a if phase p\n"):                      api.ErrNone,
		block("rules", "rule a if z > 0\n"):                        api.ErrNone,
		"memory 1 1 1":                                             api.ErrRange,
		"memory 2 65 1":                                            api.ErrRange,
		"memory 2 2 999999999999999":                               api.ErrRange,
		"power 1000000001":                                         api.ErrRange,
		"power 999999999999999":                                    api.ErrRange,
		block("record 0", "1 2 x\n"):                               api.ErrSyntax,
		block("record 0", "1  2\n"):                                api.ErrSyntax,
		block("record 0", " 1\n"):                                  api.ErrSyntax,
		block("record 0", "1 \n"):                                  api.ErrSyntax,
		block("record 0", " \n"):                                   api.ErrSyntax,
		block("record 0", "01\n"):                                  api.ErrSyntax,
		block("record 0", "-0\n"):                                  api.ErrSyntax,
		block("record 0", "1000000000000000000\n"):                 api.ErrSyntax,
		block("record 0", "1\n\n1 2 \n"):                           api.ErrSyntax,
		block("record 0", "1\n"):                                   api.ErrSize,
		block("record 0", "\n"):                                    api.ErrSize,
		block("record 0", lineOf(superValues(2033, 0))):            api.ErrRange,
		block("record 0", lineOf(superValues(-1, 0))):              api.ErrRange,
		block("record 1", lineOf(superValues(0, 0))):               api.ErrForm,
		block("record 4194304", lineOf(superValues(0, 0))):         api.ErrRange,
		block("record 999999999999999", lineOf(superValues(0, 0))): api.ErrRange,
		block("record 0", strings.Repeat("999999999999999999\n", desk.MaxSupers+1)): api.ErrSize,
		block("record 0", strings.Repeat("1\n", desk.MaxSupers+1)+"x\n"):            api.ErrSyntax,
	} {
		d := flownDesk(t)
		before := asked(d)
		wantDo(t, d, command, fmt.Sprintf("error %d\n", want))
		wantText(t, "behind "+command, asked(d), before)
		wantDo(t, d, "salvage", flownDesk(t).Do("salvage"))
		wantText(t, "behind "+command+", salvaged again", asked(d), before)
		wantDo(t, d, block("record 64", lineOf(superValues(7, 0))), "ok 16\n")
	}
}

// J6: what of the case a command ends.
func TestWhatEnds(t *testing.T) {
	all := "salvage\ngaps\nseries alt\ntruth high 0 0\n"
	wantSession(t, "rules leave the book", caseSession()+"salvage\n"+block("rules", "rule low if alt < 3\n")+"truth low 16 17\ntruth high 16 17\nevidence low 16 18\n",
		"ok\nok\nok\nok\nok\nok 32\nok 34\nok\nok true\nerror 4\nlow is false in 18 from 16\nword 18 3 7 good\nword 18 4 3 good\nok\n")
	wantSession(t, "sources end rules and the book", caseSession()+"salvage\n"+block("sources", "alt speed 63\n")+"gaps\nsalvage\ntruth high 16 17\nseries speed\n",
		"ok\nok\nok\nok\nok\nok 32\nok 34\nok\nerror 13\nok 34\nerror 4\nerror 4\n")
	wantSession(t, "a map ends all but memories", caseSession()+"salvage\n"+block("map", mapText)+all,
		"ok\nok\nok\nok\nok\nok 32\nok 34\nok\nok 34\nok\nerror 4\nerror 4\n")
	wantSession(t, "a map ends the book", caseSession()+"salvage\n"+block("map", mapText)+"gaps\n", "ok\nok\nok\nok\nok\nok 32\nok 34\nok\nerror 13\n")
	wantSession(t, "sources without rules for them", caseSession()+block("sources", "")+block("rules", rulesText)+block("rules", "rule x if true"+"\n"), "ok\nok\nok\nok\nok\nok 32\nok\nerror 4\nok\n")
	wantSession(t, "a recording leaves the book", caseSession()+"salvage\n"+block("record 48", lineOf(superValues(7, 0)))+"seconds\nsalvage\nseconds\n",
		"ok\nok\nok\nok\nok\nok 32\nok 34\nok 16\n2 3 4 5\nok\nok 50\n2 3 4 5 6 7\nok\n")
}

// J6: memories are further ones, as many as can be; an error of one comes first.
func TestManyMemories(t *testing.T) {
	wantSession(t, "memories", strings.Repeat("memory 2 1 1\n", ring.MaxMemories+1)+"memory 1 1 1\nsalvage\n", strings.Repeat("ok\n", ring.MaxMemories)+"error 3\nerror 9\nok 0\n")
}

// J6: copies are asked for when something is recorded.
func TestCopies(t *testing.T) {
	d := flownDesk(t)
	record := block("record 64", lineOf(superValues(7, 0)))
	for copies, want := range map[string]string{"0": "error 9\n", "3": "error 9\n", "999999999999999": "error 9\n", "1": "ok 16\n", "2": "ok 16\n"} {
		wantDo(t, d, "copies "+copies, "ok\n")
		wantDo(t, d, record, want)
	}
}

// J6: power lasts over recordings, until it fails or is told anew.
func TestPower(t *testing.T) {
	one := func(first int) string { return block(fmt.Sprint("record ", first), "\n") }
	start := block("map", "map 3\n") + "memory 3 20 9\n"
	enough, most := fmt.Sprintf("power %d\n", openSteps+16*frameSteps), fmt.Sprintf("power %d\n", openSteps+18*frameSteps+5)
	wantSession(t, "power that fails", start+most+one(0)+one(16)+one(32)+"power 0\n"+one(48)+enough+one(64)+one(80)+"salvage\n",
		"ok\nok\nok\nok 16\nok 2\nok 0\nok\nok 0\nok\nok 16\nok 0\nok 36\n") // with 18, which is torn, and what stands ahead of 64 beside it
	wantSession(t, "as much as can be", start+"power 1000000000\n"+one(0)+"power 1000000001\n"+one(16), "ok\nok\nok\nok 16\nerror 9\nok 16\n")
	wantSession(t, "a recording of nothing", start+"power 0\nrecord 5\nend\nrecord 999999999999999\nend\n", "ok\nok\nok\nok 0\nok 0\n")
}

// J6: cuts are those of the last command; flips and losses are further ones, and are asked for when something is salvaged.
func TestCrashes(t *testing.T) {
	d := flownDesk(t)
	c := someCase(t)
	m := stored(t, recorded(t, c, 16, superValues(1, 2), superValues(5, 1)), 1, memory(t, 2, 20), memory(t, 2, 24))
	cuts, flips, lost := []int{1000, 2001, 3000}, []api.Flip{{Piece: 1, Half: 20, Bits: 5}}, []int{2}
	wantSalvaged := func() {
		t.Helper()
		pieces, e := desk.Crash(m, cuts, lost, flips)
		if e != api.OK {
			wantDo(t, d, "salvage", fmt.Sprintf("error %d\n", e))
			return
		}
		b := readOf(t, c, pieces)
		wantDo(t, d, "salvage", fmt.Sprintf("ok %d\n", len(b.Rests)))
		wantDo(t, d, "gaps", gapLines(t, b)+"ok\n")
		wantDo(t, d, "show 3", shownLines(t, b, 3)+"ok\n")
	}
	wantSalvaged()
	wantDo(t, d, "flip 0 500 15", "ok\n")
	flips = append(flips, api.Flip{Half: 500, Bits: 15})
	wantSalvaged()
	wantDo(t, d, "cut 5", "ok\n")
	cuts = []int{5}
	wantSalvaged()
	wantDo(t, d, "cut", "ok\n")
	cuts = nil
	wantSalvaged()
	wantDo(t, d, "cut 20 10", "ok\n")
	cuts = []int{20, 10}
	wantSalvaged()
	wantDo(t, d, "cut 700 999 2000 2999", "ok\n")
	cuts = []int{700, 999, 2000, 2999}
	wantSalvaged()
	wantDo(t, d, "lose 0", "ok\n")
	lost = append(lost, 0)
	wantSalvaged()
	wantDo(t, d, "lose 2", "ok\n")
	lost = append(lost, 2)
	wantSalvaged()
	wantDo(t, d, "flip 0 0 0", "ok\n")
	flips = append(flips, api.Flip{})
	wantSalvaged()
}

// J6: lists that are too long stay so, however many commands come.
func TestLongLists(t *testing.T) {
	start := caseSession() + "cut" + strings.Repeat(" 7", salvage.MaxPieces-1) + "\n"
	answers := "ok\nok\nok\nok\nok\nok 32\nok\n"
	wantSession(t, "as many cuts", start+"salvage\n", answers+"ok 34\n")
	wantSession(t, "a cut more", strings.Replace(start, " 7 7", " 7 7 7", 1)+"salvage\n", answers+"error 3\n")
	d := flownDesk(t)
	for i := range desk.MaxFlips - 1 {
		wantDo(t, d, fmt.Sprintf("flip 0 %d 15", i%2), "ok\n")
	}
	wantDo(t, d, "salvage", flownDesk(t).Do("salvage")) // 499 and 500 changes of two halves that no frame has
	for range 5 {
		wantDo(t, d, "flip 9 9 99", "ok\n")
		wantDo(t, d, "salvage", "error 3\n")
	}
	wantDo(t, d, "cut 9999999", "ok\n")
	wantDo(t, d, "salvage", "error 9\n")
	d = flownDesk(t) // with four pieces, one of which is lost
	for i := range 300 {
		if i == 2 {
			continue
		}
		wantDo(t, d, fmt.Sprint("lose ", i), "ok\n")
		got, fails := d.Do("salvage"), "error 9\n"
		if (got == fails) != (i > 3) || i == 3 && got != "ok 0\n" {
			t.Errorf("salvage without the pieces to %d: %q", i, got)
		}
	}
	wantDo(t, d, "cut", "ok\n")
	wantDo(t, d, "salvage", "error 9\n")
}

// J6: a session is its commands one after the other.
func TestSessionIsItsCommands(t *testing.T) {
	r := dice(7)
	for range 60 {
		script, commands := chanceSession(t, r)
		d, want := desk.New(), ""
		for i, c := range commands {
			if i%2 == 0 {
				c = strings.TrimSuffix(c, "\n")
			}
			want += d.Do(c)
		}
		wantSession(t, "by chance", script, want)
		wantSession(t, "without the last line end", strings.TrimSuffix(script, "\n"), want)
		l, e := desk.Commands(script)
		wantErrno(t, "Commands", e, api.OK)
		wantSame(t, "Commands", l, commands)
	}
}

// chanceSession has a flight that is recorded and crashes, and is asked for.
func chanceSession(t *testing.T, r *rand.Rand) (string, []string) {
	t.Helper()
	c := chanceCase(t, r)
	m, e := layout.Print(c.Map)
	wantErrno(t, "Print", e, api.OK)
	sources, e := desk.PrintSources(c.Sources)
	wantErrno(t, "PrintSources", e, api.OK)
	commands := []string{block("map", m), block("sources", sources), "memory 3 8 9\n", "memory 4 5 9\n", fmt.Sprintf("copies %d\n", 1+r.IntN(3))}
	for i := range 2 {
		commands = append(commands, block(fmt.Sprint("record ", 16*i), lineOf(chanceValues(t, r, c.Map))))
	}
	for range r.IntN(5) {
		commands = append(commands, pick(r, "cut 500 1000 1001\n", "cut\n", "flip 0 300 1\n", "lose 1\n", "power 700\n", "salvage\n", "hello\n", "\n"))
	}
	commands = append(commands, "salvage\n", block("rules", "rule x if t0 > 3\nrule y if for 2 rule x\n"))
	for range r.IntN(12) {
		commands = append(commands, pick(r, "gaps\n", "seconds\n", "show 1\n", "series t0\n", "truth x 0 9\n", "truth y 3 20\n", "evidence y 3 20\n", "report 0 31\n", "map\nend\n"))
	}
	return strings.Join(commands, ""), commands
}

// J6: whatever a text is, each command in it has an answer, whose last line is ok or an error.
func TestAnyText(t *testing.T) {
	r := dice(8)
	words := []string{"map", "sources", "rules", "record", "end", "memory", "copies", "power", "cut", "flip", "lose", "salvage", "gaps", "seconds", "show", "series", "truth", "evidence", "report", "alt", "high", "", "x"}
	numbers := []string{"0", "1", "2", "3", "4", "8", "16", "20", "48", "300", "999", "4194288", "524287", "4194303", "1000000000", "999999999999999", "-1", "00"}
	answered := map[string]int{}
	for range 300 {
		d, want := desk.New(), ""
		script := caseSession()
		for range 40 {
			line := pick(r, words...)
			for range r.IntN(5) {
				line += " " + pick(r, append(numbers, "alt", "alt", "alt", "high", "high")...)
			}
			script += line + "\n"
			if strings.HasPrefix(line, "record") || strings.HasPrefix(line, "map") || strings.HasPrefix(line, "sources") || strings.HasPrefix(line, "rules") {
				script += pick(r, "", "alt speed 63\n", "rule high if alt > 3\n", lineOf(superValues(9, 1))) + "end\n"
			}
		}
		l, e := desk.Commands(script)
		wantErrno(t, "Commands", e, api.OK)
		for _, c := range l {
			answer := d.Do(c)
			want += answer
			lines := strings.Split(strings.TrimSuffix(answer, "\n"), "\n")
			last, _, _ := strings.Cut(lines[len(lines)-1], " ")
			if !strings.HasSuffix(answer, "\n") || last != "ok" && (last != "error" || len(lines) > 1) {
				t.Errorf("Do of %.60q: %.60q", c, answer)
			}
			first, _, _ := strings.Cut(strings.TrimSuffix(c, "\n"), " ")
			answered[strings.Split(first, "\n")[0]+" "+last]++
		}
		wantSession(t, "any text", script, want)
	}
	for _, w := range []string{"map", "sources", "rules", "record", "memory", "copies", "power", "cut", "flip", "lose", "salvage", "gaps", "seconds", "show", "series", "report"} {
		if w != "map" && answered[w+" ok"] == 0 || answered[w+" error"] == 0 {
			t.Errorf("%s is answered by ok %d times, by an error %d times", w, answered[w+" ok"], answered[w+" error"])
		}
	}
}

// J6: desks have nothing in common.
func TestDesksAreApart(t *testing.T) {
	one, other := flownDesk(t), flownDesk(t)
	before := asked(other)
	for _, c := range []string{"cut 7", "flip 1 1 1", "lose 1", "copies 2", "power 5", "memory 2 2 2", block("record 64", lineOf(superValues(7, 0))), "salvage", block("map", "map 1\n")} {
		one.Do(c)
		wantText(t, "the other desk", asked(other), before)
	}
	wantDo(t, other, "salvage", flownDesk(t).Do("salvage"))
	wantText(t, "a new desk", desk.New().Do("gaps"), "error 13\n")
}
