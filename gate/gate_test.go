package gate_test

import (
	"errors"
	"math"
	"slices"
	"strings"
	"testing"

	"gloaming/answer"
	"gloaming/api"
	"gloaming/gate"
	"gloaming/line"
	"gloaming/pool"
	"gloaming/seat"
	"gloaming/trace"
)

var great = api.Config{Parts: 3, Cells: 2, Names: 1, Bands: 2, Probes: 2, Fills: 2, Gens: 9}

func made(t *testing.T, c api.Config) *gate.Gate {
	t.Helper()
	g, err := gate.New(c)
	if err != nil {
		t.Fatal(err)
	}
	return g
}

func say(who int, s string) gate.Event { return gate.Event{Kind: pool.Line, Who: who, Line: s} }

func picks(who, n int) []gate.Event {
	return slices.Repeat([]gate.Event{{Kind: pool.Pick, Who: who}}, n)
}

// P17.1, P17.2: what is told, to whom, of which event.
func TestSaid(t *testing.T) {
	g := made(t, great)
	if len(g.Said()) != 0 || len(g.To(0)) != 0 || len(g.Open()) != 0 || g.Pool() == nil || g.Pool().R.Config != great {
		t.Error("a new gate")
	}
	if g.Do(say(0, "poll")) {
		t.Error("a line that is none")
	}
	if l := g.Said(); !slices.Equal(l, []gate.Said{{Part: 0, Event: 0, Line: "0 wrong 11 at 4"}}) {
		t.Error(l)
	}
	if len(g.Pool().Uses()) != 0 {
		t.Error("it came to the pool")
	}
	if !g.Do(gate.Event{Kind: pool.Tick, N: 3}) || g.Do(gate.Event{Kind: pool.Tick}) || g.Do(gate.Event{Kind: pool.Pick}) || g.Do(gate.Event{Kind: 9}) {
		t.Error("what the pool says")
	}
	if !g.Do(say(1, "view")) || !g.Do(say(0, "submit 1 0 buy 0 5 10 1 50")) || g.Do(say(1, "cancel 07 0")) {
		t.Error("lines")
	}
	if !slices.Equal(g.Open(), []int{5, 6}) {
		t.Error(g.Open())
	}
	g.Run(picks(0, 400)...)
	if !slices.Equal(g.Open(), []int{5}) {
		t.Error(g.Open())
	}
	g.Do(say(0, ""))
	g.Run(picks(1, 4)...)
	want := []gate.Said{{0, 0, "0 wrong 11 at 4"}, {1, 7, "3 wrong 13 at 7"}, {0, 6, "3 submit 1 0 ok"}, {0, 408, "3 wrong 10 at 0"}, {1, 5, "3 view free 0 0 free 0 0"}}
	if !slices.Equal(g.Said(), want) {
		t.Error(g.Said())
	}
	if !slices.Equal(g.To(0), []string{want[0].Line, want[2].Line, want[3].Line}) || len(g.To(2)) != 0 || len(g.To(-1)) != 0 || len(g.Open()) != 0 {
		t.Error(g.To(0))
	}
}

// P17.1: lines of nobody, draws, and what is read to the end.
func TestNobody(t *testing.T) {
	g := made(t, great)
	for _, who := range []int{-1, 3, math.MaxInt, math.MinInt} {
		if g.Do(say(who, "view")) || g.Do(say(who, "x")) || g.Do(gate.Event{Kind: pool.Draw, Who: who}) || g.Do(gate.Event{Kind: pool.Pick, Who: who}) && who != 3 {
			t.Error(who)
		}
	}
	if len(g.Said()) != 0 || len(g.Pool().Lines()) != 0 || len(g.Open()) != 0 {
		t.Error(g.Said())
	}
	if !g.Do(gate.Event{Kind: pool.Draw, Who: 2, N: -1, Line: "x"}) || !g.Do(say(2, "view")) || !slices.Equal(g.Open(), []int{17}) {
		t.Error(g.Open())
	}
	if g.Do(say(0, strings.Repeat("x", 201))) || g.To(0)[0] != "0 wrong 14 at 200" {
		t.Error(g.To(0))
	}
	if g, err := gate.New(api.Config{Parts: 7}); g != nil || !errors.Is(err, api.ErrRange) {
		t.Error(err)
	}
}

// P17.2: picks that come to the pool by another way bring replies, too, in between.
func TestBehind(t *testing.T) {
	g := made(t, great)
	g.Run(say(0, "x"), say(0, "view"), say(1, "view"))
	for range 3 {
		g.Pool().Run(pool.Event{Kind: pool.Pick, Who: 1}, pool.Event{Kind: pool.Pick, Who: 0})
	}
	g.Pool().Run(pool.Event{Kind: pool.Pick, Who: 1})
	if !slices.Equal(g.Open(), []int{1}) {
		t.Error(g.Open())
	}
	g.Run(say(1, "x"))
	g.Pool().Run(pool.Event{Kind: pool.Pick, Who: 0})
	want := []gate.Said{{0, 0, "0 wrong 10 at 0"}, {1, 2, "0 view free 0 0 free 0 0"}, {1, 3, "0 wrong 10 at 0"}, {0, 1, "0 view free 0 0 free 0 0"}}
	if !slices.Equal(g.Said(), want) || len(g.Open()) != 0 {
		t.Error(g.Said(), g.Open())
	}
}

// P17.2: of nil.
func TestNil(t *testing.T) {
	var g *gate.Gate
	g.Run(say(0, "view"), say(0, "x"))
	if g.Do(say(0, "view")) || len(g.Said()) != 0 || len(g.To(0)) != 0 || g.Pool() != nil || len(g.Open()) != 0 {
		t.Error("of nil")
	}
}

// P17.3: what others ask and never fill isn't told, byte by byte; each line is one of layer 16.
func TestUnseen(t *testing.T) {
	n := uint64(8)
	draw := func(below int) int {
		n = n*6364136223846793005 + 1442695040888963407
		return int(n >> 33 % uint64(below))
	}
	filled, lines := 0, 0
	for range 100 {
		var with, without []gate.Event
		add := func(e gate.Event, seen bool) {
			with = append(with, e)
			if seen {
				without = append(without, e)
			}
		}
		ids := [3]int{}
		for range 150 {
			who := draw(3)
			ids[who]++
			switch draw(7) {
			case 0, 1: // 2 buys below all sells: nobody fills it
				price, side := 5000+draw(5), []string{"buy", "sell"}[draw(2)]
				if who == 2 {
					price, side = 1000, "buy"
				}
				a := seat.Ask{Kind: seat.Submit, ID: ids[who], Cell: draw(2), Qty: 1 + draw(6), Terms: api.Terms{Price: price, Least: 1, Until: 1 + draw(30)}}
				if side == "sell" {
					a.Terms.Side = api.Sell
				}
				s, err := line.Print(a)
				if err != nil {
					t.Fatal(err)
				}
				add(say(who, s), who != 2)
			case 2:
				add(say(who, []string{"view", "poll 0", "poll 1", "poll", "cancel 1 0"}[draw(5)]), who != 2)
			case 3:
				add(gate.Event{Kind: pool.Tick, N: 1}, true)
			case 4:
				add(gate.Event{Kind: pool.Draw, Who: who, N: draw(9)}, who != 2)
			default:
				for range draw(50) {
					add(gate.Event{Kind: pool.Pick, Who: who}, who != 2)
				}
				broom := 3 + draw(4)
				for range draw(200) {
					add(gate.Event{Kind: pool.Pick, Who: broom}, true)
				}
			}
		}
		g, h := made(t, great), made(t, great)
		g.Run(with...)
		h.Run(without...)
		for part := range 2 {
			lines += len(g.To(part))
			if !slices.Equal(g.To(part), h.To(part)) {
				t.Fatal(part, g.To(part), h.To(part))
			}
		}
		for _, s := range g.Said() {
			if _, err := answer.Parse(s.Line); err != nil && !strings.Contains(s.Line, " wrong ") {
				t.Fatal(s)
			}
		}
		for _, e := range g.Pool().Events() {
			if e.Kind == trace.Fill {
				filled++
			}
		}
	}
	if filled < 30 || lines < 200 {
		t.Error("too little", filled, lines)
	}
}
