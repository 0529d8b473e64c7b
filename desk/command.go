package desk

import (
	"strings"

	"orangebox/api"
	"orangebox/series"
)

const (
	maxDigits = 15
	blockEnd  = "end\n"
	open      = -1 // numbers of a command that can have any number of them
)

// command is what must stand behind the first word of a command, and what it does.
type command struct {
	named   bool // a name comes first
	numbers int
	block   bool
	asks    bool // a book, which must be there
	do      func(*Desk, order) (string, api.Errno)
}

// order is what stands behind the first word of a command.
type order struct {
	name    string
	numbers []int
	block   string
}

// commands returns all commands by their first words.
func commands() map[string]command {
	return map[string]command{
		"map":      {block: true, do: (*Desk).takeMap},
		"sources":  {block: true, do: (*Desk).takeSources},
		"rules":    {block: true, do: (*Desk).takeRules},
		"memory":   {numbers: 3, do: (*Desk).addMemory},
		"copies":   {numbers: 1, do: (*Desk).takeCopies},
		"power":    {numbers: 1, do: (*Desk).takePower},
		"record":   {numbers: 1, block: true, do: (*Desk).record},
		"cut":      {numbers: open, do: (*Desk).takeCuts},
		"flip":     {numbers: 3, do: (*Desk).addFlip},
		"lose":     {numbers: 1, do: (*Desk).addLost},
		"salvage":  {do: (*Desk).salvage},
		"gaps":     {asks: true, do: (*Desk).gaps},
		"seconds":  {asks: true, do: (*Desk).seconds},
		"show":     {asks: true, numbers: 1, do: (*Desk).show},
		"series":   {asks: true, named: true, do: (*Desk).series},
		"truth":    {asks: true, named: true, numbers: 2, do: (*Desk).truth},
		"evidence": {asks: true, named: true, numbers: 2, do: (*Desk).evidence},
		"report":   {asks: true, numbers: 2, do: (*Desk).report},
	}
}

// Commands divides a text into commands.
func Commands(script string) ([]string, api.Errno) {
	if len(script) > MaxInput {
		return nil, api.ErrSize
	}
	if script != "" && !strings.HasSuffix(script, "\n") {
		script += "\n"
	}
	if strings.Count(script, "\n") > MaxLines {
		return nil, api.ErrSize
	}
	var l []string
	known := commands()
	for script != "" {
		n, ok := firstEnd(script, known)
		if !ok {
			return nil, api.ErrForm
		}
		l = append(l, script[:n])
		script = script[n:]
	}
	return l, api.OK
}

// firstEnd returns where the first command of a text of whole lines ends, if it does.
func firstEnd(script string, known map[string]command) (int, bool) {
	n := strings.Index(script, "\n") + 1
	word, _, _ := strings.Cut(script[:n-1], " ")
	if !known[word].block {
		return n, true
	}
	for text := range strings.Lines(script[n:]) {
		n += len(text)
		if text == blockEnd {
			return n, true
		}
	}
	return 0, false
}

// execute wants a text that is one command.
func (d *Desk) execute(text string) (string, api.Errno) {
	first, block, _ := strings.Cut(text, "\n")
	words := strings.Split(first, " ")
	c, known := commands()[words[0]]
	if !known {
		return "", api.ErrSyntax
	}
	o, ok := c.orderOf(words[1:])
	if !ok {
		return "", api.ErrSyntax
	}
	if c.asks && d.book == nil {
		return "", api.ErrEmpty
	}
	o.block = strings.TrimSuffix(block, blockEnd)
	return c.do(d, o)
}

// orderOf reports whether words can stand behind the first one.
func (c command) orderOf(words []string) (order, bool) {
	var o order
	if c.named {
		if len(words) == 0 || words[0] == "" {
			return order{}, false
		}
		o.name, words = words[0], words[1:]
	}
	if c.numbers != open && c.numbers != len(words) {
		return order{}, false
	}
	for _, w := range words {
		n, ok := series.ReadNumber(w)
		if !ok || n < 0 || len(w) > maxDigits {
			return order{}, false
		}
		o.numbers = append(o.numbers, n)
	}
	return o, true
}
