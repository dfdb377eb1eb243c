package ledger_test

import (
	"errors"
	"slices"
	"testing"

	"gloaming/api"
	"gloaming/fault"
	"gloaming/ledger"
	"gloaming/rules"
	"gloaming/trace"
)

func made(t *testing.T) rules.Rules {
	t.Helper()
	r, err := rules.New(api.Config{Parts: 3, Cells: 1, Names: 2, Bands: 1, Fills: 4, Gens: 2})
	if err != nil {
		t.Fatal(err)
	}
	return r
}

func submit(cell, name, side, price, qty int) trace.Event {
	return trace.Event{Kind: trace.Submit, Cell: cell, Gen: 1, Terms: api.Terms{Name: name, Side: side, Price: price, Least: 1, Until: 9}, Qty: qty}
}

func fill(cell, other, qty, price int) trace.Event {
	return trace.Event{Kind: trace.Fill, Cell: cell, Gen: 1, Other: other, With: 1, Qty: qty, Price: price}
}

// some is a buy of 9 at 20, filled by a sell of 4 at 10, and then by one of 2 at 18.
func some() []trace.Event {
	return []trace.Event{submit(0, 1, api.Buy, 20, 9), submit(1, 1, api.Sell, 10, 4), fill(1, 0, 4, 15), submit(2, 1, api.Sell, 18, 2), fill(0, 2, 2, 19)}
}

// P19.1: rows
func TestRows(t *testing.T) {
	l, err := ledger.Of(made(t), some()...)
	if err != nil {
		t.Fatal(err)
	}
	buyer := ledger.Row{Bought: 6, Paid: 4*15 + 2*19, Trades: 2}
	one, two := ledger.Row{Sold: 4, Got: 60, Trades: 1}, ledger.Row{Sold: 2, Got: 38, Trades: 1}
	if l.Row(0, 1) != buyer || l.Row(1, 1) != one || l.Row(2, 1) != two || l.Part(0) != buyer || l.Part(1) != one {
		t.Error(l.Row(0, 1), l.Row(1, 1), l.Row(2, 1))
	}
	if l.Name(1) != (ledger.Row{Bought: 6, Sold: 6, Paid: 98, Got: 98, Trades: 4}) || l.Name(0) != (ledger.Row{}) {
		t.Error(l.Name(1))
	}
	for _, x := range [][2]int{{0, 0}, {-1, 1}, {3, 1}, {0, 2}, {0, -1}, {5, 2}, {6, 3}} {
		if l.Row(x[0], x[1]) != (ledger.Row{}) {
			t.Error(x)
		}
	}
	if l.Part(-1) != (ledger.Row{}) || l.Part(3) != (ledger.Row{}) || l.Name(2) != (ledger.Row{}) || l.Name(-1) != (ledger.Row{}) {
		t.Error("rows of nobody")
	}
	if x := (ledger.Row{Bought: 1, Sold: 2, Paid: 3, Got: 4, Trades: 5}).Add(ledger.Row{Bought: 10, Sold: 20, Paid: 30, Got: 40, Trades: 50}); x != (ledger.Row{Bought: 11, Sold: 22, Paid: 33, Got: 44, Trades: 55}) {
		t.Error(x)
	}
	if goods, money := (ledger.Row{Bought: 7, Sold: 2, Paid: 3, Got: 4, Trades: 5}).Net(); goods != 5 || money != 1 {
		t.Error(goods, money)
	}
}

// P19.1: the first event that can't happen.
func TestWrong(t *testing.T) {
	l, err := ledger.Of(made(t), append(some(), fill(0, 2, 1, 19), fill(9, 9, 1, 1))...)
	if at, ok := fault.Place(err); l != nil || !errors.Is(err, api.ErrGone) || !ok || at != 5 {
		t.Error(err)
	}
}

// P19.2: prices
func TestPrices(t *testing.T) {
	l, err := ledger.Of(made(t), append(some(), trace.Event{Kind: trace.Cancel, Cell: 0, Gen: 1}, trace.Event{Kind: trace.Over, Cell: 1, Gen: 1, End: api.Filled})...)
	if err != nil {
		t.Fatal(err)
	}
	if p := l.Prices(1); !slices.Equal(p, []int{15, 19}) {
		t.Error(p)
	}
	l.Prices(1)[0] = 99
	if b, ok := l.Bars(1); !ok || b != [4]int{15, 19, 15, 19} {
		t.Error(b, ok)
	}
	if m, ok := l.Mean(1); !ok || m != 98/6 {
		t.Error(m, ok)
	}
	down := []trace.Event{submit(0, 0, api.Buy, 20, 9), submit(1, 0, api.Sell, 10, 1), fill(0, 1, 1, 15), {Kind: trace.Submit, Cell: 1, Gen: 2, Terms: api.Terms{Side: api.Sell, Price: 2, Least: 1, Until: 9}, Qty: 1}, {Kind: trace.Fill, Cell: 0, Gen: 1, Other: 1, With: 2, Qty: 1, Price: 11}, submit(2, 0, api.Sell, 8, 1), fill(2, 0, 1, 14)}
	l, err = ledger.Of(made(t), down...)
	if err != nil {
		t.Fatal(err)
	}
	if b, ok := l.Bars(0); !ok || b != [4]int{15, 15, 11, 14} {
		t.Error(b, ok)
	}
	if m, ok := l.Mean(0); !ok || m != 40/3 || l.Row(0, 0) != (ledger.Row{Bought: 3, Paid: 40, Trades: 3}) || l.Part(1) != (ledger.Row{Sold: 2, Got: 26, Trades: 2}) {
		t.Error(m, ok, l.Row(0, 0))
	}
	for _, name := range []int{1, 2, -1, 3} {
		b, ok := l.Bars(name)
		m, in := l.Mean(name)
		if ok || in || b != [4]int{} || m != 0 || len(l.Prices(name)) != 0 {
			t.Error(name)
		}
	}
}

// P19.3, and nil ledgers.
func TestEven(t *testing.T) {
	for n := range len(some()) {
		l, err := ledger.Of(made(t), some()[:n]...)
		if err != nil || !l.Even() {
			t.Error(n, err)
		}
	}
	var l *ledger.Ledger
	b, ok := l.Bars(0)
	m, in := l.Mean(0)
	if l.Row(0, 0) != (ledger.Row{}) || l.Part(0) != (ledger.Row{}) || l.Name(0) != (ledger.Row{}) || len(l.Prices(0)) != 0 || ok || in || b != [4]int{} || m != 0 || !l.Even() {
		t.Error("of nil")
	}
}
