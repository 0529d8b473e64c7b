package fleet_test

import (
	"fmt"
	"strings"
	"testing"

	"orangebox/api"
	"orangebox/fleet"
)

func wantPrint(t *testing.T, l []api.FleetRow, want string) {
	t.Helper()
	s, e := fleet.Print(l)
	wantErrno(t, "Print", e, api.OK)
	wantSame(t, fmt.Sprint("Print of ", len(l), " rows"), s, want)
}

// I5
func TestPrint(t *testing.T) {
	wantPrint(t, nil, "")
	wantPrint(t, []api.FleetRow{shown("", 0)}, "row - 0\n")
	wantPrint(t, []api.FleetRow{hidden("")}, "row - hidden\n")
	wantPrint(t, []api.FleetRow{shown("ab", 2, 0, 1000000000), hidden("c"), shown("!~-", 10, 7, 8), shown("hidden", 1, 2, 3), shown("--", 0, 0, 0)},
		"row ab 2 0 1000000000\nrow c hidden\nrow !~- 10 7 8\nrow hidden 1 2 3\nrow -- 0 0 0\n")
}

// I5: each byte that a key can have, or cannot.
func TestPrintOfKeys(t *testing.T) {
	for c := range 256 {
		key := "a" + string([]byte{byte(c)}) + "b"
		l := []api.FleetRow{hidden("x"), shown(key, 1)}
		if c >= 33 && c <= 126 {
			wantPrint(t, l, "row x hidden\nrow "+key+" 1\n")
		} else {
			wantWrong(t, fmt.Sprintf("Print of %q", key), results(fleet.Print(l)), api.ErrForm)
		}
	}
	wantWrong(t, "Print of -", results(fleet.Print([]api.FleetRow{shown("a", 1), hidden("-")})), api.ErrForm)
	wantWrong(t, "Print of errors", results(fleet.Print([]api.FleetRow{hidden("-"), shown("", -1)})), api.ErrRange)
}

// I5: a text of 1000000 bytes, and one of one more.
func TestPrintOfMany(t *testing.T) {
	frame := "row  hidden\n"
	for _, c := range []struct {
		l    []api.FleetRow
		long int
	}{
		{[]api.FleetRow{shown("a", 1, 2), hidden(strings.Repeat("x", 1000000-len(frame)-len("row a 1 2\n")))}, 1000000},
		{[]api.FleetRow{hidden(strings.Repeat("x", 1000000-len(frame)))}, 1000000},
		{[]api.FleetRow{shown("a", 10, make([]int, (1000000-len("row a 10\n"))/2)...)}, 999999},
	} {
		s, e := fleet.Print(c.l)
		wantErrno(t, "Print", e, api.OK)
		wantSame(t, "bytes", len(s), c.long)
		wantSame(t, "Print of many", s == plainPrint(c.l), true)
		c.l[0].Key += "xx"[:1000001-c.long]
		wantWrong(t, "Print of more", results(fleet.Print(c.l)), api.ErrSize)
		c.l[0].Key += "\n"
		wantWrong(t, "Print of more", results(fleet.Print(c.l)), api.ErrForm)
	}
}

// I5: tables of fleets as texts.
func TestPrintIsPlain(t *testing.T) {
	r := dice(8)
	for range 200 {
		rows := tableOf(t, someFlights(r), someRules(t, r), someMask(r), pick(r, api.ByNothing, api.ByTail, api.ByRoute, api.ByDay))
		wantPrint(t, rows, plainPrint(rows))
	}
}
