package redact_test

import (
	"errors"
	"slices"
	"testing"

	"gloaming/api"
	"gloaming/pool"
	"gloaming/redact"
	"gloaming/seat"
)

var (
	small = api.Config{Parts: 3, Cells: 1, Names: 1, Bands: 1, Probes: 1, Fills: 2, Gens: 3}
	great = api.Config{Parts: 3, Cells: 2, Names: 1, Bands: 2, Probes: 2, Fills: 2, Gens: 9}
)

func submit(who, id, cell, side, price, qty int) pool.Event {
	return pool.Event{Kind: pool.Line, Who: who, Ask: seat.Ask{Kind: seat.Submit, ID: id, Cell: cell, Terms: api.Terms{Side: side, Price: price, Least: 1, Until: 90}, Qty: qty}}
}

func cancel(who, id, cell int) pool.Event {
	return pool.Event{Kind: pool.Line, Who: who, Ask: seat.Ask{Kind: seat.Cancel, ID: id, Cell: cell}}
}

func picks(who, n int) []pool.Event {
	return slices.Repeat([]pool.Event{{Kind: pool.Pick, Who: who}}, n)
}

func run(t *testing.T, c api.Config, l ...pool.Event) *redact.Run {
	t.Helper()
	r, err := redact.New(c, l...)
	if err != nil {
		t.Fatal(err)
	}
	return r
}

// script is one of three participants: 0 and 1 fill each other, 2 is refused once, and fills nobody.
func script() []pool.Event {
	return slices.Concat(
		[]pool.Event{{Kind: pool.Draw, Who: 2, N: 1}, {Kind: pool.Draw, Who: 2, N: 1}, submit(2, 4, 0, api.Buy, 5, 1)}, picks(2, 90),
		[]pool.Event{submit(2, 4, 0, api.Buy, 5, 1)}, picks(2, 1),
		[]pool.Event{submit(0, 1, 0, api.Buy, 10, 5)}, picks(0, 90),
		[]pool.Event{submit(1, 7, 0, api.Sell, 8, 3), submit(9, 1, 0, 0, 1, 1)}, picks(1, 90),
		[]pool.Event{cancel(2, 4, 0), cancel(2, 3, 0), cancel(0, 4, 0), submit(1, 8, 0, api.Sell, 99, 1)}, picks(2, 3), picks(0, 30), picks(1, 3),
	)
}

// P22.1
func TestOrders(t *testing.T) {
	l := script()
	r := run(t, small, l...)
	first, again, buy, sell := 2, 93, 95, 186
	last := sell + 1 + 90 + 4
	want := []redact.Order{
		{Part: 2, ID: 4, Event: first, Done: true},
		{Part: 2, ID: 4, Event: again, Done: true, Code: api.ErrIdent},
		{Part: 0, ID: 1, Event: buy, Done: true, Fills: 1},
		{Part: 1, ID: 7, Event: sell, Done: true, Fills: 1},
		{Part: 1, ID: 8, Event: last},
	}
	if got := r.Orders(); !slices.Equal(got, want) {
		t.Error(got)
	}
	if s := r.Silent(0); !slices.Equal(s, want[:1]) {
		t.Error(s)
	}
	if len(r.Silent(2)) != 0 {
		t.Error(r.Silent(2))
	}
	if l := r.Tells(); !slices.Equal(l, [][2]int{{0, 1}, {1, 1}, {2, 0}}) {
		t.Error(l)
	}
	p, err := pool.New(small)
	if err != nil {
		t.Fatal(err)
	}
	p.Run(l...)
	if q := r.Pool(); q == nil || !slices.Equal(q.M.Words(), p.M.Words()) || !slices.Equal(q.Uses(), p.Uses()) {
		t.Error("the pool")
	}
	r.Orders()[0].Part = 9
	if !slices.Equal(r.Orders(), want) {
		t.Error("what was handed out is kept")
	}
}

// P22.1: an order that isn't answered yet may have fills.
func TestOpen(t *testing.T) {
	r := run(t, small, slices.Concat([]pool.Event{submit(0, 1, 0, api.Buy, 10, 5)}, picks(0, 90), []pool.Event{submit(1, 7, 0, api.Sell, 8, 3)}, picks(1, 30))...)
	want := []redact.Order{{Part: 0, ID: 1, Event: 0, Done: true, Fills: 1}, {Part: 1, ID: 7, Event: 91, Fills: 1}}
	if got := r.Orders(); !slices.Equal(got, want) {
		t.Error(got)
	}
}

// P22.2
func TestErase(t *testing.T) {
	l := script()
	r := run(t, small, l...)
	steps := seat.Steps(r.Pool().R, l[2].Ask)
	var want []pool.Event
	for i, e := range l {
		gone := i == 0 || i >= 2 && i < 3+steps || i == 93 || i == 94 // its first number, its Lines and their Picks; its second number nobody took
		if i == 278 || i > 281 && i < 285 {
			gone = true // its Cancel, and that one's Picks
		}
		if !gone {
			want = append(want, e)
		}
	}
	if got := r.Bare(0); !redact.Same(got, want) || !redact.Same(got, r.Erase(0, r.Silent(0)...)) {
		t.Error(len(l), len(got), len(want))
	}
	only := slices.Concat(l[:93], l[95:])
	if got := r.Erase(0); !redact.Same(got, only) {
		t.Error("of none gone", len(got), len(only))
	}
	if got := r.Erase(2); !redact.Same(got, l) {
		t.Error("of its own", len(got))
	}
	if !slices.Equal(l, script()) {
		t.Error("what was handed in is another one")
	}
	if redact.Same(l, l[1:]) || !redact.Same(nil, []pool.Event{}) || redact.Same(l[:1], l[2:3]) {
		t.Error("Same")
	}
}

// P22.1, P22.2: wrong configurations, and nil.
func TestNil(t *testing.T) {
	if r, err := redact.New(api.Config{}, script()...); r != nil || !errors.Is(err, api.ErrRange) {
		t.Error(err)
	}
	var none *redact.Run
	if none.Pool() != nil || len(none.Orders()) != 0 || len(none.Silent(0)) != 0 || len(none.Erase(0, redact.Order{})) != 0 || len(none.Bare(0)) != 0 || len(none.Tells()) != 0 {
		t.Error("of nil")
	}
	if r := run(t, small); len(r.Orders()) != 0 || len(r.Bare(0)) != 0 || !slices.Equal(r.Tells(), [][2]int{{0, 0}, {1, 0}, {2, 0}}) {
		t.Error("of nothing")
	}
}

// P22.1: the most first, then by participants.
func TestTells(t *testing.T) {
	r := run(t, small, slices.Concat([]pool.Event{submit(0, 1, 0, api.Buy, 10, 5)}, picks(0, 90))...)
	if l := r.Tells(); !slices.Equal(l, [][2]int{{1, 1}, {2, 1}, {0, 0}}) {
		t.Error(l)
	}
}

// P22.3
func TestSilence(t *testing.T) {
	n := uint64(31)
	draw := func(below int) int {
		n = n*6364136223846793005 + 1442695040888963407
		return int(n >> 33 % uint64(below))
	}
	silent, told := 0, 0
	for range 60 {
		var l []pool.Event
		ids := [3]int{}
		for len(l) < 2500 {
			who := draw(3)
			switch draw(8) {
			case 0, 1:
				ids[who]++
				e := submit(who, ids[who]-draw(2), draw(2), draw(2), 4996+draw(8), 1+draw(8))
				e.Ask.Terms.Until = 1 + draw(40)
				switch draw(5) {
				case 0:
					e = cancel(who, max(1, ids[who]-1-draw(3)), draw(2))
				case 1:
					e.Ask = seat.Ask{Kind: seat.Poll, Cell: draw(2)}
				}
				l = append(l, e)
			case 2:
				l = append(l, pool.Event{Kind: pool.Tick, N: 1})
			case 3:
				l = append(l, pool.Event{Kind: pool.Draw, Who: who, N: draw(6)})
			default:
				l = append(l, picks([]int{who, draw(7)}[draw(2)], 1+draw(60))...)
			}
		}
		r := run(t, great, l...)
		for part := range 3 {
			bare := r.Bare(part)
			silent += len(r.Silent(part))
			b := run(t, great, bare...)
			told += len(b.Pool().Replies(part))
			if !slices.EqualFunc(r.Pool().Replies(part), b.Pool().Replies(part), seat.Same) {
				t.Fatal(part, r.Pool().Replies(part), b.Pool().Replies(part))
			}
		}
	}
	if silent < 200 || told < 500 {
		t.Error("too little", silent, told)
	}
}
