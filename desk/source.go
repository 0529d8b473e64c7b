package desk

import (
	"strconv"
	"strings"

	"orangebox/api"
	"orangebox/event"
	"orangebox/finding"
	"orangebox/series"
)

const (
	maxText    = 200000
	beginNames = 2 // words with which a source begins: its track and its parameter
	beginOf    = 3 // numbers with which a calibration begins: its Den, and what can be
	lineOfs    = 4 // numbers of one of its lines
)

// PrintSources writes sources.
func PrintSources(l []api.Source) (string, api.Errno) {
	if _, e := checkSources(l); e != api.OK {
		return "", e
	}
	var out strings.Builder
	for _, s := range l {
		words := []string{s.Track, s.Param, strconv.Itoa(s.Long)}
		for _, c := range s.Meaning {
			words = append(words, digits(numbersOf(c)...)...)
		}
		out.WriteString(line(words...))
	}
	return out.String(), api.OK
}

// ReadSources reads sources; with an error it returns the number of the line to which it belongs.
func ReadSources(s string) ([]api.Source, int, api.Errno) {
	if len(s) > maxText {
		return nil, 0, api.ErrSize
	}
	var l []api.Source
	for text := range strings.Lines(s) {
		read, ok := readSource(text)
		if !ok {
			return nil, len(l), api.ErrSyntax
		}
		l = append(l, read)
	}
	if number, e := checkSources(l); e != api.OK {
		return nil, number, e
	}
	return l, 0, api.OK
}

// checkSources returns also the number of the source to which the error belongs.
func checkSources(l []api.Source) (int, api.Errno) {
	if len(l) > finding.MaxSources {
		return 0, api.ErrSize
	}
	for i, s := range l {
		if !event.IsName(s.Track) || !event.IsName(s.Param) {
			return i, api.ErrName
		}
		if e := finding.CheckMeaning(s); e != api.OK {
			return i, e
		}
	}
	return 0, api.OK
}

// numbersOf returns the numbers of a calibration in the order in which they are written.
func numbersOf(c api.Calibration) []int {
	numbers := []int{c.Den, c.Low, c.High}
	for _, x := range c.Lines {
		numbers = append(numbers, x.From, x.To, x.A, x.B)
	}
	return numbers
}

// readSource reports whether a line is as it must be.
func readSource(text string) (api.Source, bool) {
	text, whole := strings.CutSuffix(text, "\n")
	words := strings.Split(text, " ")
	if !whole || len(words) <= beginNames {
		return api.Source{}, false
	}
	numbers, ok := numbersIn(words[beginNames:])
	if !ok {
		return api.Source{}, false
	}
	s := api.Source{Track: words[0], Param: words[1], Long: numbers[0]}
	if len(numbers) == 1 {
		return s, true
	}
	c, ok := calibrationOf(numbers[1:])
	s.Meaning = []api.Calibration{c}
	return s, ok
}

// calibrationOf makes a calibration of its numbers, if there are as many as it must have.
func calibrationOf(numbers []int) (api.Calibration, bool) {
	if len(numbers) < beginOf+lineOfs || (len(numbers)-beginOf)%lineOfs != 0 {
		return api.Calibration{}, false
	}
	c := api.Calibration{Den: numbers[0], Low: numbers[1], High: numbers[2]}
	for l := numbers[beginOf:]; len(l) > 0; l = l[lineOfs:] {
		c.Lines = append(c.Lines, api.Line{From: l[0], To: l[1], A: l[2], B: l[3]})
	}
	return c, true
}

// numbersIn reads words that are numbers as series have them.
func numbersIn(words []string) ([]int, bool) {
	numbers := make([]int, len(words))
	for i, w := range words {
		n, ok := series.ReadNumber(w)
		if !ok {
			return nil, false
		}
		numbers[i] = n
	}
	return numbers, true
}
