package shrink_test

import (
	"math"
	"slices"
	"testing"

	"gloaming/api"
	"gloaming/pool"
	"gloaming/seat"
	"gloaming/shrink"
)

var small = api.Config{Parts: 2, Cells: 1, Names: 1, Bands: 1, Probes: 0, Fills: 2, Gens: 3}

func submit(who, id, side, price, qty int) pool.Event {
	return pool.Event{Kind: pool.Line, Who: who, Ask: seat.Ask{Kind: seat.Submit, ID: id, Terms: api.Terms{Side: side, Price: price, Least: 1, Until: 90}, Qty: qty}}
}

func picks(who, n int) []pool.Event {
	return slices.Repeat([]pool.Event{{Kind: pool.Pick, Who: who}}, n)
}

// script comes to one fill, and to three replies.
func script() []pool.Event {
	return slices.Concat(
		[]pool.Event{{Kind: pool.Tick, N: 5}, submit(0, 1, api.Buy, 10, 5)}, picks(0, 80), picks(3, 7),
		[]pool.Event{submit(1, 1, api.Sell, 8, 3), {Kind: pool.Draw, Who: 1, N: 9}}, picks(1, 70),
		[]pool.Event{{Kind: pool.Line, Who: 1, Ask: seat.Ask{Kind: seat.View}}, {Kind: pool.Tick, N: 70}}, picks(1, 30),
	)
}

// minimal says whether a row of a script's events holds, and none can be taken out.
func minimal(t *testing.T, l, of []pool.Event, holds shrink.Holds) {
	t.Helper()
	if !holds(slices.Clone(l)) {
		t.Error("it doesn't hold")
	}
	for i := range l {
		if holds(slices.Concat(l[:i], l[i+1:])) {
			t.Error("an event can be taken out", i)
		}
	}
	for _, e := range of {
		if len(l) > 0 && l[0] == e {
			l = l[1:]
		}
	}
	if len(l) > 0 {
		t.Error("events of another script, or in another order")
	}
}

// P23.1
func TestScript(t *testing.T) {
	l := script()
	for _, holds := range []shrink.Holds{
		shrink.Fills(small, 1), shrink.Fills(small, 0), shrink.Told(small, 0, 1), shrink.Told(small, 1, 2), shrink.Told(small, 1, 0),
		func(l []pool.Event) bool { return len(l)%5 == 3 },
		func(l []pool.Event) bool { return len(l) > 17 && l[0].Kind != pool.Line },
		func(l []pool.Event) bool { clear(l); return len(l) >= 2 },
		func(l []pool.Event) bool {
			n := 0
			for _, e := range l {
				n += e.N
			}
			return n == 84 || n == 75
		},
	} {
		got, ok := shrink.Script(l, holds)
		if !ok || !slices.Equal(l, script()) {
			t.Fatal("it was taken for another one")
		}
		minimal(t, got, l, holds)
	}
	row := []pool.Event{{N: 2}, {N: 1}, {N: 3}}
	needs := func(l []pool.Event) bool { // 3, and 1 only with 2
		has := func(n int) bool { return slices.Contains(l, pool.Event{N: n}) }
		return has(3) && (has(2) || !has(1))
	}
	if got, ok := shrink.Script(row, needs); !ok || !slices.Equal(got, row[2:]) {
		t.Error("what couldn't go at first", got)
	}
	if got, ok := shrink.Script(row, func(l []pool.Event) bool { return len(l) == 3 }); !ok || len(got) != 3 {
		t.Error(got)
	} else if got[0].N = 9; row[0].N != 2 {
		t.Error("what is handed out is what was handed in")
	}
	got, _ := shrink.Script(l, shrink.Fills(small, 1))
	lines := 0
	for _, e := range got {
		if e.Kind == pool.Line {
			lines++
		} else if e.Kind != pool.Pick {
			t.Error(e)
		}
	}
	if lines != 2 || len(got) >= len(l) {
		t.Error(len(got))
	}
	if got, ok := shrink.Script(nil, func(l []pool.Event) bool { return len(l) == 0 }); !ok || len(got) != 0 {
		t.Error("of no events")
	}
	for _, holds := range []shrink.Holds{nil, shrink.Fills(small, 2)} {
		if got, ok := shrink.Script(l, holds); ok || len(got) != 0 {
			t.Error("of what doesn't hold")
		}
	}
}

// P23.2
func TestNumbers(t *testing.T) {
	n := func(l ...int) []pool.Event {
		var all []pool.Event
		for i, x := range l {
			all = append(all, pool.Event{Kind: i % 6, N: x})
		}
		return all
	}
	tests := []struct {
		l, want []pool.Event
		holds   shrink.Holds
	}{
		{n(9, 70), n(0, 0), func(l []pool.Event) bool { return true }},
		{n(1, 0, 1), n(0, 0, 0), func(l []pool.Event) bool { return true }},
		{n(10), n(2), func(l []pool.Event) bool { return l[0].N == 10 || l[0].N == 5 || l[0].N == 2 }},
		{n(9, 70), n(0, 70), func(l []pool.Event) bool { return l[0].N+l[1].N >= 70 }},
		{n(9, 70), n(5, 33), func(l []pool.Event) bool { return l[0].N >= 5 && l[1].N >= 33 }},
		{n(100, -3, 0), n(7, -3, 0), func(l []pool.Event) bool { return l[0].N >= 7 }},
		{n(math.MaxInt, 1), n(1<<62, 1), func(l []pool.Event) bool { return l[0].N >= 1<<62 && l[1].N == 1 }},
		// by halves: 8 of 0 to 16 doesn't, so what is below isn't looked at; 12 does, 10 doesn't, 11 does
		{n(16), n(11), func(l []pool.Event) bool { x := l[0].N; return x == 3 || x == 11 || x >= 12 }},
		{n(4), n(2), func(l []pool.Event) bool { defer clear(l); return l[0].N%2 == 0 && l[0].N > 0 }},
		{nil, nil, func(l []pool.Event) bool { return true }},
	}
	for i, x := range tests {
		given := slices.Clone(x.l)
		got, ok := shrink.Numbers(x.l, x.holds)
		if !ok || !slices.Equal(got, x.want) || !slices.Equal(given, x.l) {
			t.Error(i, got, ok)
		}
	}
	for _, holds := range []shrink.Holds{nil, func(l []pool.Event) bool { return false }} {
		if got, ok := shrink.Numbers(n(3), holds); ok || len(got) != 0 {
			t.Error("of what doesn't hold")
		}
	}
	got, ok := shrink.Numbers(script(), shrink.Told(small, 1, 2))
	if !ok || got[0].N != 0 || got[len(got)-31].N != 0 {
		t.Error(got)
	}
}

// P23.3
func TestHolds(t *testing.T) {
	l := script()
	for n, want := range map[int]bool{-1: true, 0: true, 1: true, 2: false} {
		if shrink.Fills(small, n)(l) != want {
			t.Error("fills", n)
		}
	}
	for n, want := range map[int]bool{-1: true, 0: true, 1: true, 2: true, 3: false} {
		if shrink.Told(small, 1, n)(l) != want || shrink.Told(small, 0, n)(l) != (n < 2) || shrink.Told(small, 9, n)(l) != (n < 1) {
			t.Error("told", n)
		}
	}
	if shrink.Fills(api.Config{}, 0)(l) || shrink.Told(api.Config{}, 0, 0)(l) || shrink.Fills(small, 1)(nil) || !shrink.Told(small, 0, 0)(nil) {
		t.Error("of what may not be")
	}
}
