package story_test

import (
	"errors"
	"math"
	"slices"
	"strings"
	"testing"

	"gloaming/api"
	"gloaming/fault"
	"gloaming/gate"
	"gloaming/pool"
	"gloaming/story"
)

func pick(who int) gate.Event { return gate.Event{Kind: pool.Pick, Who: who} }

func picks(who, n int) []gate.Event { return slices.Repeat([]gate.Event{pick(who)}, n) }

// P26.1: Parse
func TestParse(t *testing.T) {
	tests := []struct {
		lines []string
		want  []gate.Event
	}{
		{nil, nil},
		{[]string{"", "# say 0 view", "#", "#x"}, nil},
		{[]string{"say 0 view", "pick 0 3"}, append([]gate.Event{{Kind: pool.Line, Line: "view"}}, picks(0, 3)...)},
		{[]string{"say -3 ", "say 12  a  b ", "say 0 #\r\xff"}, []gate.Event{{Kind: pool.Line, Who: -3}, {Kind: pool.Line, Who: 12, Line: " a  b "}, {Kind: pool.Line, Line: "#\r\xff"}}},
		{[]string{"tick 5", "tick -9999999", "tick 0"}, []gate.Event{{Kind: pool.Tick, N: 5}, {Kind: pool.Tick, N: -9999999}, {Kind: pool.Tick}}},
		{[]string{"pick 3", "pick -1", "pick 9999999"}, []gate.Event{pick(3), pick(-1), pick(9999999)}},
		{[]string{"pick -2 2", "pick 1 10000"}, append(picks(-2, 2), picks(1, 10000)...)},
		{[]string{"draw 1 -7", "draw -1 7"}, []gate.Event{{Kind: pool.Draw, Who: 1, N: -7}, {Kind: pool.Draw, Who: -1, N: 7}}},
	}
	for i, x := range tests {
		if l, err := story.Parse(x.lines...); err != nil || !slices.Equal(l, x.want) {
			t.Error(i, l, err)
		}
	}
}

// P26.1: what is wrong with a line, and where.
func TestWrong(t *testing.T) {
	tests := []struct {
		s    string
		code api.Code
		at   int
	}{
		{" ", api.ErrWord, 0}, {" #", api.ErrWord, 0}, {" tick 1", api.ErrWord, 0}, {"says 0 x", api.ErrWord, 0}, {"Tick 1", api.ErrWord, 0}, {"view", api.ErrWord, 0}, {"line x", api.ErrWord, 0},
		{"say", api.ErrNum, 4}, {"say ", api.ErrNum, 4}, {"say 0", api.ErrNum, 4}, {"say x y", api.ErrNum, 4}, {"say -0 y", api.ErrNum, 4}, {"say  0 y", api.ErrNum, 4}, {"say 00 y", api.ErrNum, 4}, {"say --1 y", api.ErrNum, 4}, {"say 10000000 y", api.ErrNum, 4},
		{"tick", api.ErrNum, 5}, {"tick ", api.ErrNum, 5}, {"tick x", api.ErrNum, 5}, {"tick 1 x", api.ErrNum, 5}, {"tick 1 ", api.ErrNum, 5}, {"tick  1", api.ErrNum, 5}, {"tick -", api.ErrNum, 5}, {"tick +1", api.ErrNum, 5}, {"tick 01", api.ErrNum, 5}, {"tick -01", api.ErrNum, 5},
		{"tick 1 2", api.ErrWord, 0}, {"pick 1 1", api.ErrWord, 0}, {"pick 1 10001", api.ErrWord, 0}, {"pick 1 0", api.ErrWord, 0}, {"pick 1 -2", api.ErrWord, 0}, {"pick 1 2 3", api.ErrWord, 0},
		{"pick", api.ErrNum, 5}, {"pick 1 x", api.ErrNum, 5}, {"draw", api.ErrNum, 5}, {"draw 1", api.ErrWord, 0}, {"draw 1 2 3", api.ErrWord, 0}, {"draw 1 x 3", api.ErrNum, 5},
	}
	for _, x := range tests {
		l, err := story.Parse("tick 1", "", x.s, "nor this")
		if at, ok := fault.Place(err); len(l) != 0 || !errors.Is(err, x.code) || !ok || at != x.at || !slices.Equal(fault.Words(err), []string{"3"}) {
			t.Errorf("%q: %v", x.s, err)
		}
	}
}

// P26.1: Print
func TestPrint(t *testing.T) {
	l := slices.Concat([]gate.Event{{Kind: pool.Line, Who: -4, Line: " x "}, {Kind: pool.Tick, N: -1}, {Kind: pool.Tick, N: -1}, pick(1)}, picks(2, 2), picks(1, 20001), []gate.Event{{Kind: pool.Draw, Who: 9999999, N: -9999999}, {Kind: pool.Line}})
	want := []string{"say -4  x ", "tick -1", "tick -1", "pick 1", "pick 2 2", "pick 1 10000", "pick 1 10000", "pick 1", "draw 9999999 -9999999", "say 0 "}
	if lines, err := story.Print(l...); err != nil || !slices.Equal(lines, want) {
		t.Error(lines, err)
	}
	if lines, err := story.Print(); err != nil || len(lines) != 0 {
		t.Error(lines, err)
	}
	for i, e := range []gate.Event{
		{Kind: pool.Pick, Who: 10000000}, {Kind: pool.Pick, Who: -10000000}, {Kind: pool.Tick, N: 10000000}, {Kind: pool.Tick, N: math.MinInt}, {Kind: pool.Draw, Who: math.MaxInt},
		{Kind: pool.Line, N: 1}, {Kind: pool.Line, Line: "a\nb"}, {Kind: pool.Tick, Line: "a"}, {Kind: pool.Pick, Line: "a"}, {Kind: pool.Draw, Line: "a"}, {Kind: pool.Tick, Who: 1}, {Kind: pool.Pick, N: 1}, {}, {Kind: 5}, {Kind: -1},
	} {
		lines, err := story.Print(pick(0), pick(0), e, gate.Event{})
		if at, ok := fault.Place(err); len(lines) != 0 || !errors.Is(err, api.ErrForm) || !ok || at != 2 {
			t.Error(i, lines, err)
		}
	}
}

// P26.1: Play
func TestPlay(t *testing.T) {
	c := api.Config{Parts: 1, Cells: 1, Names: 1, Bands: 1, Fills: 1, Gens: 1}
	g, err := story.Play(c, "tick 3", "say 0 view", "say 0 poll", "pick 0 3")
	if err != nil || !slices.Equal(g.To(0), []string{"3 wrong 11 at 4", "3 view free 0 0"}) {
		t.Error(g.To(0), err)
	}
	if g, err := story.Play(c, "tick 3", "tock"); g != nil || !errors.Is(err, api.ErrWord) || !slices.Equal(fault.Words(err), []string{"2"}) {
		t.Error(err)
	}
	if g, err := story.Play(api.Config{}, "tock"); g != nil || !errors.Is(err, api.ErrRange) {
		t.Error(err)
	}
}

// P26.2
func TestBack(t *testing.T) {
	n := uint64(26)
	draw := func(below int) int {
		n = n*6364136223846793005 + 1442695040888963407
		return int(n >> 33 % uint64(below))
	}
	bytes := "ab #\r\t\x00\xff0-"
	for range 300 {
		var l []gate.Event
		for range draw(40) {
			who, num := draw(19999999)-9999999, draw(7)-3
			switch draw(5) {
			case 0:
				var b strings.Builder
				for range draw(6) {
					b.WriteByte(bytes[draw(len(bytes))])
				}
				l = append(l, gate.Event{Kind: pool.Line, Who: num, Line: b.String()})
			case 1:
				l = append(l, gate.Event{Kind: pool.Tick, N: who})
			case 2:
				l = append(l, gate.Event{Kind: pool.Draw, Who: who, N: num})
			default:
				l = append(l, picks(num, 1+draw(9))...)
			}
		}
		lines, err := story.Print(l...)
		if err != nil {
			t.Fatal(err)
		}
		if back, err := story.Parse(lines...); err != nil || !slices.Equal(back, l) {
			t.Fatal(lines, err)
		}
	}
}
