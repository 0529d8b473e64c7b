package desk_test

import (
	"fmt"
	"strings"
	"testing"

	"orangebox/api"
	"orangebox/desk"
)

func wantCommands(t *testing.T, script string, want ...string) {
	t.Helper()
	l, e := desk.Commands(script)
	wantErrno(t, fmt.Sprintf("Commands of %.60q", script), e, api.OK)
	wantText(t, fmt.Sprintf("Commands of %.60q", script), fmt.Sprintf("%q", l), fmt.Sprintf("%q", want))
	wantText(t, "all commands", strings.Join(l, ""), strings.TrimSuffix(script, "\n")+"\n"[:min(1, len(script))])
}

// J6: a command is a line, or a line with its block; the last line can lack its end.
func TestCommands(t *testing.T) {
	wantCommands(t, "")
	wantCommands(t, "\n", "\n")
	wantCommands(t, "\n\n", "\n", "\n")
	wantCommands(t, "salvage", "salvage\n")
	wantCommands(t, "salvage\n", "salvage\n")
	wantCommands(t, "a\n\nb", "a\n", "\n", "b\n")
	wantCommands(t, "end\nsalvage\nend", "end\n", "salvage\n", "end\n")
	for _, word := range []string{"map", "sources", "rules", "record"} {
		for _, first := range []string{word, word + " ", word + " 1", word + "  x y"} {
			wantCommands(t, first+"\nend", first+"\nend\n")
			wantCommands(t, first+"\na\nb\nend\nsalvage\n", first+"\na\nb\nend\n", "salvage\n")
			wantCommands(t, "gaps\n"+first+"\n\nend x\n end\nend \nEnd\nend\r\nmap\nend\nend\n", "gaps\n", first+"\n\nend x\n end\nend \nEnd\nend\r\nmap\nend\n", "end\n")
			for _, script := range []string{first, first + "\n", first + "\nend ", first + "\nend\n" + first + "\na\nxend\n", first + "\n end\n"} {
				wantWrong(t, fmt.Sprintf("%q", script), results(desk.Commands(script)), api.ErrForm)
			}
		}
		for _, first := range []string{" " + word, word + "s", word + "\t1", word + "\r", "x " + word, strings.ToUpper(word)} {
			wantCommands(t, first+"\nend\n", first+"\n", "end\n")
		}
	}
	for _, word := range []string{"memory", "copies", "power", "cut", "flip", "lose", "salvage", "gaps", "seconds", "show", "series", "truth", "evidence", "report", "hello", "end"} {
		wantCommands(t, word+"\nend", word+"\n", "end\n")
	}
}

// J6: as many lines and bytes as there can be, and one more.
func TestCommandsOfMany(t *testing.T) {
	for _, line := range []string{"\n", "salvage\n", "map\nend\n"} {
		lines := strings.Count(line, "\n")
		script := strings.Repeat(line, desk.MaxLines/lines)
		l, e := desk.Commands(script)
		wantErrno(t, "as many lines", e, api.OK)
		wantSame(t, "as many lines", len(l), desk.MaxLines/lines)
		l, e = desk.Commands(strings.TrimSuffix(script, "\n"))
		wantErrno(t, "as many lines, the last one without its end", e, api.OK)
		wantSame(t, "as many lines, the last one without its end", len(l), desk.MaxLines/lines-map[bool]int{true: 1}[line == "\n"])
		wantWrong(t, "a line more", results(desk.Commands(script+"\n")), api.ErrSize)
		wantWrong(t, "a line more without its end", results(desk.Commands(script+"x")), api.ErrSize)
		wantWrong(t, "a block more without its end", results(desk.Commands(script+"map")), api.ErrSize)
	}
	block := "map\n" + strings.Repeat("\n", desk.MaxLines-2) + "end"
	wantCommands(t, block, block+"\n")
	wantWrong(t, "a block of a line more", results(desk.Commands("\n"+block)), api.ErrSize)
	for _, end := range []string{"", "\n"} {
		script := strings.Repeat("x", desk.MaxInput-len(end)) + end
		wantCommands(t, script, strings.TrimSuffix(script, "\n")+"\n")
		wantWrong(t, "a byte more", results(desk.Commands("x"+script)), api.ErrSize)
		wantText(t, "Session", desk.Session(script), "error 6\n")
		wantText(t, "Session of a byte more", desk.Session("x"+script), "error 3\n")
	}
	wantWrong(t, "a block without an end, and a byte more", results(desk.Commands("map\n"+strings.Repeat("x", desk.MaxInput))), api.ErrSize)
	numbers := "cut" + strings.Repeat(" 1", desk.MaxInput/2-20)
	wantText(t, "many cuts", desk.Session(numbers+"\nsalvage"), "ok\nerror 3\n")
}

// J6: a text that is no command, or more than one, and commands that have none of the forms.
func TestNoCommand(t *testing.T) {
	for _, text := range []string{
		"", "\n", " ", "hello", "hello\n", "salvage\nsalvage", "salvage\n\n", "\nsalvage", "map", "map\n", "map\nmap 7\n", "map\nend\nend\n", "map\nend\nmap\nend\n", "end",
		strings.Repeat("\n", desk.MaxLines+1), strings.Repeat("x", desk.MaxInput+1), "salvage\r", "\xff",
		" salvage", "salvage ", "salvage 1", "Salvage", "salvages", "salvage\x00",
		"map \nmap 7\nend\n", "map 7\nmap 7\nend\n", "sources 1\nend\n", "rules x\nend\n",
		"record\nend\n", "record \nend\n", "record 0 0\nend\n", "record  0\nend\n", "record x\nend\n", "record -1\nend\n", "record 00\nend\n",
		"memory", "memory 2 4", "memory 2 4 10 1", "memory 2  4 10", "memory 2 4 ", "memory 2 4 x", "memory 02 4 10", "memory +2 4 10", "memory -2 4 10", "memory 2 4 10 ", "memory\t2 4 10",
		"copies", "copies ", "copies 1 1", "copies x", "copies -1", "copies 1000000000000000", "copies 01", "copies 1.", "copies \u0661",
		"power", "power 5 5", "power -0", "power 1000000000000000",
		"cut ", "cut  1", "cut 1 ", "cut 1  2", "cut -1", "cut x", "cut 1 2 03", "cut 1,2", "cut 1000000000000000",
		"flip", "flip 0", "flip 0 1", "flip 0 1 2 3", "flip 0 1 x", "lose", "lose 1 2", "lose x", "lose -1",
		"gaps 1", "gaps ", "seconds 1", "seconds ", "show", "show x", "show 1 2", "show -1", "series", "series ", "series  a", "series a ", "series a b",
		"truth", "truth a", "truth a 0", "truth a 0 0 0", "truth 0 0", "truth  0 0", "truth a x 0", "truth a 0 x", "truth a  0", "truth a 0 -1",
		"evidence a", "evidence a 0", "evidence  0 0", "evidence a 0 0 ", "evidence a 0 1 2", "report", "report 0", "report 0 1 2", "report x 0", "report 0 x", "report 0 01",
	} {
		for name, d := range map[string]*desk.Desk{"nothing": desk.New(), "a book": flownDesk(t)} {
			before := asked(d)
			wantText(t, fmt.Sprintf("Do of %.60q with %s", text, name), d.Do(text), "error 6\n")
			wantText(t, fmt.Sprintf("behind %.60q with %s", text, name), asked(d), before)
		}
	}
}
