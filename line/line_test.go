package line_test

import (
	"errors"
	"math"
	"strings"
	"testing"

	"gloaming/api"
	"gloaming/fault"
	"gloaming/line"
	"gloaming/seat"
)

var whole = seat.Ask{Kind: seat.Submit, ID: 7, Cell: 1, Terms: api.Terms{Name: 2, Side: api.Sell, Price: 90, Least: 3, Until: 55}, Qty: 8}

// P15.1: what lines ask.
func TestParse(t *testing.T) {
	for s, want := range map[string]seat.Ask{
		"submit 7 1 sell 2 8 90 3 55":          whole,
		"submit 0 0 buy 0 0 0 0 0":             {Kind: seat.Submit},
		"submit 9999999 1 buy 2 3 4 5 9999999": {Kind: seat.Submit, ID: 9999999, Cell: 1, Qty: 3, Terms: api.Terms{Name: 2, Price: 4, Least: 5, Until: 9999999}},
		"cancel 7 0":                           {Kind: seat.Cancel, ID: 7},
		"poll 3":                               {Kind: seat.Poll, Cell: 3},
		"view":                                 {Kind: seat.View},
	} {
		a, err := line.Parse(s)
		if err != nil || a != want {
			t.Errorf("%q: %v %v", s, a, err)
		}
		if p, err := line.Print(a); p != s || err != nil {
			t.Errorf("%q: %q %v", s, p, err)
		}
	}
}

// P15.1: what is wrong, and where.
func TestWrong(t *testing.T) {
	tests := []struct {
		s    string
		code api.Code
		at   int
	}{
		{"cancel 07 0", api.ErrNum, 7},
		{"", api.ErrWord, 0},
		{" view", api.ErrWord, 0},
		{"View", api.ErrWord, 0},
		{"views 1", api.ErrWord, 0},
		{"?", api.ErrWord, 0},
		{"poll", api.ErrShort, 4},
		{"poll ", api.ErrNum, 5},
		{"poll  1", api.ErrNum, 5},
		{"poll 1 ", api.ErrMore, 7},
		{"poll 1 2", api.ErrMore, 7},
		{"view ", api.ErrMore, 5},
		{"view 1 2", api.ErrMore, 5},
		{"poll -1", api.ErrNum, 5},
		{"poll +1", api.ErrNum, 5},
		{"poll 1x", api.ErrNum, 5},
		{"poll 00", api.ErrNum, 5},
		{"poll 10000000", api.ErrNum, 5},
		{"cancel 1", api.ErrShort, 8},
		{"cancel x", api.ErrNum, 7},
		{"cancel 1 x 3", api.ErrNum, 9},
		{"submit 7 1 Sell 2 8 90 3 55", api.ErrWord, 11},
		{"submit 7 1  2 8 90 3 55", api.ErrWord, 11},
		{"submit 7 1 hold x", api.ErrWord, 11},
		{"submit 7 x hold", api.ErrNum, 9},
		{"submit 7 1", api.ErrShort, 10},
		{"submit 7 1 buy 2 8 90 3", api.ErrShort, 23},
		{"submit 7 1 buy 2 8 90 3 x", api.ErrNum, 24},
		{"submit 7 1 buy 2 8 90 3 55 1", api.ErrMore, 27},
		{"view\n", api.ErrByte, 4},
		{"\x7fview\x1f", api.ErrByte, 0},
		{"poll é", api.ErrByte, 5},
		{"poll ~", api.ErrNum, 5},
		{"no\x00", api.ErrByte, 2},
		{strings.Repeat("x", 200), api.ErrWord, 0},
		{strings.Repeat("x", 201), api.ErrLong, 200},
		{strings.Repeat("\xff", 5000), api.ErrLong, 200},
		{strings.Repeat(" ", 199) + "\t", api.ErrByte, 199},
	}
	for _, x := range tests {
		a, err := line.Parse(x.s)
		if at, ok := fault.Place(err); a != (seat.Ask{}) || !errors.Is(err, x.code) || fault.Code(err) != x.code || !ok || at != x.at {
			t.Errorf("%q: %v %v", x.s, a, err)
		}
	}
}

// P15.1: Print, and why it can't.
func TestPrint(t *testing.T) {
	with := func(f func(a *seat.Ask)) seat.Ask { a := whole; f(&a); return a }
	bad := whole
	bad.ID, bad.Cell, bad.Terms, bad.Qty = -1, -1, api.Terms{Name: -1, Side: 5, Price: -1, Least: -1, Until: -1}, -1
	tests := []struct {
		a    seat.Ask
		want string
		code api.Code
		at   int
	}{
		{whole, "submit 7 1 sell 2 8 90 3 55", 0, 0},
		{with(func(a *seat.Ask) { a.Kind = seat.Cancel }), "cancel 7 1", 0, 0},
		{with(func(a *seat.Ask) { a.Kind = seat.Poll }), "poll 1", 0, 0},
		{with(func(a *seat.Ask) { a.Kind = seat.View }), "view", 0, 0},
		{with(func(a *seat.Ask) { *a = bad; a.Kind = seat.View }), "view", 0, 0},
		{with(func(a *seat.Ask) { *a = bad; a.Kind = seat.Poll; a.Cell = 4 }), "poll 4", 0, 0},
		{with(func(a *seat.Ask) { *a = bad; a.Kind = 0 }), "", api.ErrForm, -1},
		{with(func(a *seat.Ask) { a.Kind = 5 }), "", api.ErrForm, -1},
		{bad, "", api.ErrRange, 0},
		{with(func(a *seat.Ask) { a.ID = line.MaxNum + 1 }), "", api.ErrRange, 0},
		{with(func(a *seat.Ask) { *a = bad; a.ID = 0 }), "", api.ErrRange, 1},
		{with(func(a *seat.Ask) { *a = bad; a.ID, a.Cell = 0, 0 }), "", api.ErrRange, 2},
		{with(func(a *seat.Ask) { *a = bad; a.ID, a.Cell, a.Terms.Name = 0, 0, 0 }), "", api.ErrArg, 2},
		{with(func(a *seat.Ask) { a.Terms.Side = -1 }), "", api.ErrArg, 2},
		{with(func(a *seat.Ask) { a.Qty = -1 }), "", api.ErrRange, 3},
		{with(func(a *seat.Ask) { a.Terms.Price = math.MaxInt }), "", api.ErrRange, 4},
		{with(func(a *seat.Ask) { a.Terms.Least = math.MinInt }), "", api.ErrRange, 5},
		{with(func(a *seat.Ask) { a.Terms.Until = -1 }), "", api.ErrRange, 6},
		{with(func(a *seat.Ask) { a.Kind = seat.Cancel; a.Cell = -1 }), "", api.ErrRange, 1},
		{with(func(a *seat.Ask) { a.Kind = seat.Poll; a.Cell = -1 }), "", api.ErrRange, 0},
	}
	for i, x := range tests {
		s, err := line.Print(x.a)
		at, ok := fault.Place(err)
		if s != x.want || fault.Code(err) != x.code || (err == nil) != (x.code == 0) || x.at > 0 && (!ok || at != x.at) {
			t.Error(i, s, err)
		}
	}
}

// P15.1: Verb, Digits
func TestWords(t *testing.T) {
	if line.MaxNum != 9999999 {
		t.Error(line.MaxNum)
	}
	for kind, want := range map[int]string{-1: "?", 0: "?", 1: "submit", 2: "cancel", 3: "poll", 4: "view", 5: "?", math.MaxInt: "?"} {
		if line.Verb(kind) != want {
			t.Error(kind, line.Verb(kind))
		}
	}
	for w, want := range map[string]bool{"": false, "0": true, "00": false, "01": false, "10": true, "9999999": true, "10000000": false, "-1": false, "1 ": false, "१": false, "1a": false, ":": false, "/": false} {
		if line.Digits(w) != want {
			t.Errorf("%q", w)
		}
	}
}

// P15.2
func TestBack(t *testing.T) {
	n := uint64(2)
	draw := func(below int) int {
		n = n*6364136223846793005 + 1442695040888963407
		return int(n >> 33 % uint64(below))
	}
	words := []string{"submit", "cancel", "poll", "view", "0", "7", "9999999", "10000000", "01", "buy", "sell", "", "x"}
	asked := 0
	for range 20000 {
		l := []string{words[draw(4)]}
		for range draw(9) {
			l = append(l, words[4+draw(9)])
		}
		if l[0] == "submit" && len(l) > 3 {
			l[3] = words[9+draw(2)]
		}
		s := strings.Join(l, " ")
		if a, err := line.Parse(s); err == nil {
			asked++
			if p, err := line.Print(a); p != s || err != nil {
				t.Fatal(s, p, err)
			}
		}
		a := seat.Ask{Kind: 1 + draw(4), ID: draw(9999999), Cell: draw(4), Terms: api.Terms{Name: draw(3), Side: draw(2), Price: draw(9999), Least: draw(9), Until: draw(1000000)}, Qty: draw(9999)}
		p, err := line.Print(a)
		if err != nil {
			t.Fatal(a, err)
		}
		if a.Kind != seat.Submit {
			a.Terms, a.Qty = api.Terms{}, 0
		}
		if a.Kind > seat.Cancel {
			a.ID = 0
		}
		if a.Kind == seat.View {
			a.Cell = 0
		}
		if b, err := line.Parse(p); b != a || err != nil {
			t.Fatal(p, b, err)
		}
	}
	if asked < 500 {
		t.Error("few asked", asked)
	}
}
