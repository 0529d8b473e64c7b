package series

import (
	"strconv"
	"strings"

	"orangebox/api"
)

const (
	maxText   = 1000000
	maxDigits = 18
	head      = "series"
)

// Parse reads a series; with an error it returns the number of the line to which it belongs.
func Parse(text string) (api.Series, int, api.Errno) {
	if len(text) > maxText {
		return api.Series{}, 0, api.ErrSize
	}
	var s api.Series
	lines := 0
	for line := range strings.Lines(text) {
		words, whole := wordsOf(line)
		if !whole || lines == 0 && !readHead(&s, words) || lines > 0 && !readSample(&s, words) {
			return api.Series{}, lines, api.ErrSyntax
		}
		lines++
	}
	if lines == 0 {
		return api.Series{}, 0, api.ErrSyntax
	}
	if i, e := check(s); e != api.OK {
		return api.Series{}, i + 1, e // the line of a sample is behind that of the head, to which -1 leads
	}
	return s, 0, api.OK
}

// Print writes a series.
func Print(s api.Series) (string, api.Errno) {
	if e := Check(s); e != api.OK {
		return "", e
	}
	var out strings.Builder
	writeLine(&out, head, strconv.Itoa(s.Den))
	for _, x := range s.Samples {
		writeLine(&out, SampleWords(x)...)
	}
	return out.String(), api.OK
}

// SampleWords returns the parts of the line for a sample without errors.
func SampleWords(x api.Sample) []string {
	words := []string{strconv.Itoa(x.At), markWords()[x.Mark]}
	if hasNumber(x) {
		words = append(words, strconv.Itoa(x.N))
	}
	return words
}

// markWords returns the words for marks, at their places.
func markWords() [5]string {
	return [...]string{api.MarkLost: "lost", api.MarkWrong: "wrong", api.MarkDoubtful: "doubtful", api.MarkMended: "mended", api.MarkGood: "good"}
}

func writeLine(out *strings.Builder, words ...string) {
	out.WriteString(strings.Join(words, " "))
	out.WriteByte('\n')
}

// wordsOf returns the parts of a line, and whether it has its end.
func wordsOf(line string) ([]string, bool) {
	line, whole := strings.CutSuffix(line, "\n")
	return strings.Split(line, " "), whole
}

// readHead and readSample report whether a line is as it must be.
func readHead(s *api.Series, words []string) bool {
	if len(words) != 2 || words[0] != head {
		return false
	}
	den, ok := ReadNumber(words[1])
	s.Den = den
	return ok
}

func readSample(s *api.Series, words []string) bool {
	if len(words) < 2 {
		return false
	}
	at, ok := ReadNumber(words[0])
	mark, known := readMark(words[1])
	x := api.Sample{At: at, Mark: mark}
	if !ok || !known {
		return false
	}
	if !hasNumber(x) {
		s.Samples = append(s.Samples, x)
		return len(words) == 2
	}
	if len(words) != 3 {
		return false
	}
	x.N, ok = ReadNumber(words[2])
	s.Samples = append(s.Samples, x)
	return ok
}

func readMark(word string) (int, bool) {
	for mark, w := range markWords() {
		if w == word {
			return mark, true
		}
	}
	return 0, false
}

// ReadNumber reads a number as it stands in texts.
func ReadNumber(word string) (int, bool) {
	digits := strings.TrimPrefix(word, "-")
	if len(digits) == 0 || len(digits) > maxDigits || digits[0] == '0' && word != "0" {
		return 0, false
	}
	for i := range len(digits) {
		if digits[i] < '0' || digits[i] > '9' {
			return 0, false
		}
	}
	n, err := strconv.Atoi(word)
	return n, err == nil
}
