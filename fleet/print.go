package fleet

import (
	"strconv"

	"orangebox/api"
)

const (
	maxText = 1000000
	noKey   = "-" // what is written for a key that is empty
)

// Print writes a table.
func Print(l []api.FleetRow) (string, api.Errno) {
	if e := CheckTable(l); e != api.OK {
		return "", e
	}
	for _, row := range l {
		if !isWritable(row.Key) {
			return "", api.ErrForm
		}
	}
	var text []byte
	for _, row := range l {
		text = appendRow(text, row)
		if len(text) > maxText {
			return "", api.ErrSize
		}
	}
	return string(text), api.OK
}

// isWritable reports whether a key can be told from other words, and from none.
func isWritable(key string) bool {
	return key != noKey && allOf([]byte(key), func(c byte) bool { return c >= 33 && c <= 126 })
}

func appendRow(text []byte, row api.FleetRow) []byte {
	text = append(text, "row "...)
	if row.Key == "" {
		text = append(text, noKey...)
	}
	text = append(text, row.Key...)
	if row.Hidden {
		return append(text, " hidden\n"...)
	}
	for _, n := range append([]int{row.Flights}, row.Events...) {
		text = append(text, ' ')
		text = strconv.AppendInt(text, int64(n), 10)
	}
	return append(text, '\n')
}
