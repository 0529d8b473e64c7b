package layout

import (
	"strconv"
	"strings"

	"orangebox/api"
)

// maxDigits is how many digits a number of a text has at most.
const maxDigits = 6

// text is what has been read of a map, and in which lines it was.
type text struct {
	begun      bool
	m          api.Map
	mapLine    int
	paramLines []int
}

// Print writes a map.
func Print(m api.Map) (string, api.Errno) {
	if _, e := Check(m); e != api.OK {
		return "", e
	}
	var out strings.Builder
	writeLine(&out, "map", strconv.Itoa(m.Version))
	for _, p := range m.Params {
		writeParam(&out, p)
	}
	if out.Len() > MaxText {
		return "", api.ErrSize
	}
	return out.String(), api.OK
}

// Read reads a map; with an error it returns the number of the line to which it belongs.
func Read(s string) (api.Map, int, api.Errno) {
	if len(s) > MaxText {
		return api.Map{}, 0, api.ErrSize
	}
	var t text
	number := 0
	for line := range strings.Lines(s) {
		if !t.readLine(number, line) {
			return api.Map{}, number, api.ErrSyntax
		}
		number++
	}
	if !t.begun {
		return api.Map{}, number, api.ErrSyntax
	}
	if number, e := t.check(); e != api.OK {
		return api.Map{}, number, e
	}
	return t.m, 0, api.OK
}

func writeParam(out *strings.Builder, p api.Param) {
	k, _ := kindOf(p.Kind)
	head := []string{"param", p.Name, k.word, "first", strconv.Itoa(p.First), "every", strconv.Itoa(p.Every)}
	if p.Times != 1 {
		head = append(head, "times", strconv.Itoa(p.Times), "step", strconv.Itoa(p.Step))
	}
	writeLine(out, head...)
	for _, part := range p.Parts {
		writeLine(out, "part", strconv.Itoa(part.Frame), strconv.Itoa(part.Word), strconv.Itoa(part.Low), strconv.Itoa(part.Bits))
	}
	for _, name := range p.Names {
		writeLine(out, "name", name)
	}
}

func writeLine(out *strings.Builder, words ...string) {
	out.WriteString(strings.Join(words, " "))
	out.WriteByte('\n')
}

// check is like Check, with the number of a line.
func (t *text) check() (int, api.Errno) {
	if e := checkWhole(t.m); e != api.OK {
		return t.mapLine, e
	}
	if i, e := checkParams(t.m); e != api.OK {
		return t.paramLines[i], e
	}
	return 0, api.OK
}

// readLine reports whether a line can be there.
func (t *text) readLine(number int, line string) bool {
	words := wordsOf(line)
	if len(words) == 0 {
		return true
	}
	if !t.begun {
		return t.readMap(number, words)
	}
	switch words[0] {
	case "param":
		return t.readParam(number, words)
	case "part":
		return t.readPart(words)
	case "name":
		return t.readName(words)
	}
	return false
}

func (t *text) readMap(number int, words []string) bool {
	if len(words) != 2 || words[0] != "map" {
		return false
	}
	version, ok := numberOf(words[1])
	t.begun, t.mapLine, t.m.Version = true, number, version
	return ok
}

func (t *text) readParam(number int, words []string) bool {
	if len(words) < 3 {
		return false
	}
	kind, known := kindFor(words[2])
	p, ok := stepsOf(words[3:])
	p.Name, p.Kind = words[1], kind
	t.m.Params = append(t.m.Params, p)
	t.paramLines = append(t.paramLines, number)
	return known && ok
}

func (t *text) readPart(words []string) bool {
	p := t.lastParam()
	if p == nil || len(p.Names) > 0 || len(words) != 5 {
		return false
	}
	var numbers [4]int
	for i := range numbers {
		n, ok := numberOf(words[1+i])
		if !ok {
			return false
		}
		numbers[i] = n
	}
	p.Parts = append(p.Parts, api.Part{Frame: numbers[0], Word: numbers[1], Low: numbers[2], Bits: numbers[3]})
	return true
}

func (t *text) readName(words []string) bool {
	p := t.lastParam()
	if p == nil || len(words) != 2 {
		return false
	}
	p.Names = append(p.Names, words[1])
	return true
}

func (t *text) lastParam() *api.Param {
	if len(t.m.Params) == 0 {
		return nil
	}
	return &t.m.Params[len(t.m.Params)-1]
}

func wordsOf(line string) []string {
	line, _, _ = strings.Cut(strings.TrimSuffix(line, "\n"), "#")
	return strings.FieldsFunc(line, func(r rune) bool { return r == ' ' })
}

// stepsOf reads when the samples of a parameter are. Times and Step stand there only if there are more times than one.
func stepsOf(words []string) (api.Param, bool) {
	keys := [4]string{"first", "every", "times", "step"}
	numbers := [4]int{2: 1}
	if len(words) != 4 && len(words) != 8 {
		return api.Param{}, false
	}
	for i := range len(words) / 2 {
		n, ok := numberOf(words[2*i+1])
		if !ok || words[2*i] != keys[i] {
			return api.Param{}, false
		}
		numbers[i] = n
	}
	p := api.Param{First: numbers[0], Every: numbers[1], Times: numbers[2], Step: numbers[3]}
	return p, len(words) == 4 || p.Times != 1
}

func numberOf(s string) (int, bool) {
	if len(s) == 0 || len(s) > maxDigits || len(s) > 1 && s[0] == '0' {
		return 0, false
	}
	for i := range len(s) {
		if !isDigit(s[i]) {
			return 0, false
		}
	}
	n, err := strconv.Atoi(s)
	return n, err == nil
}
