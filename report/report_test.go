package report_test

import (
	"errors"
	"slices"
	"testing"

	"gloaming/api"
	"gloaming/fault"
	"gloaming/pool"
	"gloaming/record"
	"gloaming/report"
	"gloaming/seat"
	"gloaming/settle"
	"gloaming/trace"
)

// P29.1
func TestEvent(t *testing.T) {
	x := api.Terms{Name: 2, Side: api.Sell, Price: 9, Least: 3, Until: 50}
	if s := report.Terms(x); s != "sell 2 at 9 least 3 until 50" {
		t.Error(s)
	}
	if s := report.Terms(api.Terms{Side: 7, Name: -1}); s != "? -1 at 0 least 0 until 0" {
		t.Error(s)
	}
	whole := trace.Event{Cell: 1, Gen: 2, Other: 3, With: 4, Terms: x, Qty: 5, Price: 6, Tick: 7, End: 6}
	for kind, want := range map[int]string{
		1: "7 submit 1 2 sell 2 at 9 least 3 until 50 of 5", 2: "7 fill 1 2 with 3 4 of 5 at 6", 3: "7 cancel 1 2", 4: "7 ask 1 2", 5: "7 expire 1 2", 6: "7 rest 1 2", 7: "7 over 1 2 cancelled",
		0: "7 ? 1 2", 8: "7 ? 1 2", -1: "7 ? 1 2",
	} {
		e := whole
		e.Kind = kind
		if s := report.Event(e); s != want {
			t.Errorf("%q, not %q", s, want)
		}
	}
	if s := report.Event(trace.Event{Kind: trace.Fill, Cell: 0, Gen: 1, Other: 1, With: 1, Qty: 3, Price: 9, Tick: 4}); s != "4 fill 0 1 with 1 1 of 3 at 9" {
		t.Error(s)
	}
	if s := report.Event(trace.Event{Kind: trace.Over, End: 99, Tick: -1}); s != "-1 over 0 0 ?" {
		t.Error(s)
	}
}

// made is a pool in which a sell of 3 was filled by a buy of 5, and a buy of 4 expired.
func made(t *testing.T) *pool.Pool {
	t.Helper()
	p, err := pool.New(api.Config{Parts: 2, Cells: 2, Names: 2, Bands: 1, Probes: 0, Fills: 2, Gens: 3})
	if err != nil {
		t.Fatal(err)
	}
	ask := func(who, id, cell, side, price, qty, until int) {
		p.Do(pool.Event{Kind: pool.Line, Who: who, Ask: seat.Ask{Kind: seat.Submit, ID: id, Cell: cell, Terms: api.Terms{Name: 1, Side: side, Price: price, Least: 1, Until: until}, Qty: qty}})
		for !p.Idle(who) {
			p.Do(pool.Event{Kind: pool.Pick, Who: who})
		}
		p.Do(pool.Event{Kind: pool.Tick, N: 2})
	}
	ask(0, 1, 0, api.Buy, 10, 5, 50)
	ask(1, 1, 0, api.Sell, 8, 3, 50)
	ask(0, 2, 1, api.Buy, 6, 4, 6)
	ask(1, 2, 1, api.Sell, 20, 2, 70)
	return p
}

// P29.2
func TestLists(t *testing.T) {
	p := made(t)
	want := []string{"cell 0 of 0 live left 2 fills 1 buy 1 at 10 least 1 until 50", "cell 1 of 0 live left 4 fills 0 buy 1 at 6 least 1 until 6", "cell 2 of 1 filled", "cell 3 of 1 live left 2 fills 0 sell 1 at 20 least 1 until 70"}
	if l := report.Cells(p); !slices.Equal(l, want) {
		t.Error(l)
	}
	if l := report.Book(p, 1); !slices.Equal(l, []string{"buy 10 2 1", "buy 6 4 1", "sell 20 2 1"}) {
		t.Error(l)
	}
	if len(report.Book(p, 0)) != 0 || len(report.Book(p, 9)) != 0 {
		t.Error("of nothing")
	}
	if s := report.Health(p); s != "log true quiet true clear false flaws 0" { // one is due
		t.Error(s)
	}
	settle.Settle(p)
	if l := report.Log(p); !slices.Equal(l, []string{"2 cell 0 1 fill 3 at 9 with 2 1", "2 cell 2 1 fill 3 at 9 with 0 1", "2 cell 2 1 filled left 0 fills 1", "8 cell 1 1 expired left 4 fills 0"}) {
		t.Error(l)
	}
	if l := report.Cells(p); l[1] != "cell 1 of 0 expired" {
		t.Error(l)
	}
}

// P29.3
func TestLines(t *testing.T) {
	p := made(t)
	settle.Settle(p)
	l, err := report.Rows(p)
	if err != nil || !slices.Equal(l, []string{"part 0 name 1 bought 3 sold 0 net 3 -27", "part 1 name 1 bought 0 sold 3 net -3 27"}) {
		t.Error(l, err)
	}
	if s := report.Numbers(p); s != "orders 4 live 2 filled 1 cancelled 0 expired 1 retired 0 rate 428 wait 0 2" {
		t.Error(s)
	}
	if s := report.Health(p); s != "log true quiet true clear true flaws 0" {
		t.Error(s)
	}
	p.Note(3, 1, 0, api.Record{Kind: record.Fill, Qty: 1, Cell: 0, Gen: 1})
	word, s := p.State(0)
	s.Flag = true
	p.Turn(0, word, s)
	p.Tell(trace.Event{Kind: 9})
	if s := report.Health(p); s != "log false quiet false clear false flaws 1" {
		t.Error(s)
	}
	if s := report.Numbers(p); s != "orders 4 live 2 filled 1 cancelled 0 expired 1 retired 0 rate 428 wait 0 2" {
		t.Error("of an event that can't be", s)
	}
	l, err = report.Rows(p)
	if at, ok := fault.Place(err); len(l) != 0 || !errors.Is(err, api.ErrForm) || !ok || at != len(p.Log)-1 {
		t.Error(l, err)
	}
}

// P29.2, P29.3: of nil, and of a new pool.
func TestNil(t *testing.T) {
	l, err := report.Rows(nil)
	if len(report.Cells(nil)) != 0 || len(report.Log(nil)) != 0 || len(report.Book(nil, 0)) != 0 || len(l) != 0 || !errors.Is(err, api.ErrNil) || report.Numbers(nil) != "none" || report.Health(nil) != "none" {
		t.Error("of nil")
	}
	p, err := pool.New(api.Config{Parts: 1, Cells: 1, Names: 1, Bands: 1, Fills: 1, Gens: 1})
	if err != nil {
		t.Fatal(err)
	}
	if l, err := report.Rows(p); len(l) != 0 || err != nil {
		t.Error(l, err)
	}
	if s := report.Numbers(p); s != "orders 0 live 0 filled 0 cancelled 0 expired 0 retired 0 rate 0 wait 0 0" {
		t.Error(s)
	}
	if l := report.Cells(p); !slices.Equal(l, []string{"cell 0 of 0 free"}) {
		t.Error(l)
	}
}
