package event

import "strings"

// Kinds of tokens.
const (
	noToken = iota
	wordToken
	nameToken
	numberToken
	signToken
	endToken // behind all others
)

const maxDigits = 16

// token is what stands in a text from a byte on. Its text is empty at the end, and if it is none.
type token struct {
	kind, at int
	text     string
}

// tokenBehind returns the first token of a text from a byte on.
func tokenBehind(s string, at int) token {
	at = blanksEnd(s, at)
	if at == len(s) {
		return token{kind: endToken, at: at}
	}
	if run := runOf(s[at:]); run != "" {
		return runToken(run, at)
	}
	for _, sign := range [...]string{"<=", ">=", "!=", "<", "=", ">", "(", ")"} { // a longer one ahead of those with which it begins
		if strings.HasPrefix(s[at:], sign) {
			return token{signToken, at, sign}
		}
	}
	return token{kind: noToken, at: at}
}

func runToken(run string, at int) token {
	switch {
	case isWord(run):
		return token{wordToken, at, run}
	case IsName(run):
		return token{nameToken, at, run}
	case isNumber(run):
		return token{numberToken, at, run}
	}
	return token{kind: noToken, at: at}
}

// blanksEnd returns where the blanks and comments end that begin at a byte.
func blanksEnd(s string, at int) int {
	for at < len(s) {
		switch s[at] {
		case ' ', '\t', '\n', '\r':
			at++
		case '#':
			comment, _, _ := strings.Cut(s[at:], "\n")
			at += len(comment)
		default:
			return at
		}
	}
	return at
}

// isNumber wants letters, digits and hyphens.
func isNumber(run string) bool {
	digits := strings.TrimPrefix(run, "-")
	if len(digits) == 0 || len(digits) > maxDigits || digits[0] == '0' && run != "0" {
		return false
	}
	for i := range len(digits) {
		if !isDigit(digits[i]) {
			return false
		}
	}
	return true
}
