package fence_test

import (
	"errors"
	"math"
	"slices"
	"testing"

	"gloaming/api"
	"gloaming/book"
	"gloaming/fault"
	"gloaming/fence"
	"gloaming/ledger"
	"gloaming/pool"
	"gloaming/rules"
	"gloaming/seat"
	"gloaming/trace"
)

var config = api.Config{Parts: 2, Cells: 3, Names: 2, Bands: 1, Probes: 0, Fills: 4, Gens: 9}

func made(t *testing.T) rules.Rules {
	t.Helper()
	r, err := rules.New(config)
	if err != nil {
		t.Fatal(err)
	}
	return r
}

var free = fence.Limits{Open: 99, Qty: 999, Worth: 99999, Net: 999, Price: 999}

func fenced(t *testing.T, l ...fence.Limits) *fence.Fence {
	t.Helper()
	f, err := fence.New(made(t), l...)
	if err != nil {
		t.Fatal(err)
	}
	return f
}

func submit(id, cell, side, price, qty int) seat.Ask {
	return seat.Ask{Kind: seat.Submit, ID: id, Cell: cell, Terms: api.Terms{Side: side, Price: price, Least: 1, Until: 90}, Qty: qty}
}

// broken says whether an error is of a limit, by its word.
func broken(err error, word string) bool {
	return errors.Is(err, api.ErrLimit) && slices.Equal(fault.Words(err), []string{word})
}

// P27.1: New, Of
func TestNew(t *testing.T) {
	l := []fence.Limits{free, {Open: 1 << 40, Qty: 1 << 40, Worth: 1 << 40, Net: 1 << 40, Price: 1 << 40}}
	f := fenced(t, l...)
	l[0].Open = 1
	if x, ok := f.Of(0); !ok || x != free {
		t.Error(x, ok)
	}
	if x, ok := f.Of(1); !ok || x != l[1] {
		t.Error(x, ok)
	}
	for _, part := range []int{-1, 2, math.MaxInt} {
		if x, ok := f.Of(part); ok || x != (fence.Limits{}) {
			t.Error(part)
		}
	}
	for _, l := range [][]fence.Limits{nil, {free}, {free, free, {Open: -1}}, {{Open: -1}}} {
		if f, err := fence.New(made(t), l...); f != nil || !errors.Is(err, api.ErrArg) {
			t.Error(err)
		}
	}
	for i, x := range []fence.Limits{{Open: -1}, {Qty: -1}, {Worth: 1<<40 + 1}, {Net: math.MaxInt}, {Price: math.MinInt}} {
		l := []fence.Limits{free, x}
		if i%2 == 0 {
			l = []fence.Limits{x, {Open: -1}}
		}
		f, err := fence.New(made(t), l...)
		if at, ok := fault.Place(err); f != nil || !errors.Is(err, api.ErrRange) || !ok || at != i%2 {
			t.Error(i, err)
		}
	}
}

// P27.1: Uses
func TestUses(t *testing.T) {
	r := made(t)
	l, err := ledger.Of(r,
		trace.Event{Kind: trace.Submit, Cell: 0, Gen: 1, Terms: api.Terms{Price: 9, Least: 1, Until: 9}, Qty: 5},
		trace.Event{Kind: trace.Submit, Cell: 3, Gen: 1, Terms: api.Terms{Side: api.Sell, Price: 9, Least: 1, Until: 9}, Qty: 3},
		trace.Event{Kind: trace.Fill, Cell: 0, Gen: 1, Other: 3, With: 1, Qty: 3, Price: 9},
	)
	if err != nil {
		t.Fatal(err)
	}
	order := func(cell, name, side, price, left int) book.Order {
		return book.Order{Cell: cell, Terms: api.Terms{Name: name, Side: side, Price: price}, Left: left}
	}
	b := book.New(r, order(0, 0, api.Buy, 9, 2), order(1, 0, api.Sell, 20, 4), order(2, 1, api.Buy, 7, 1), order(3, 0, api.Buy, 1, 1), order(2, 0, 7, 1, 3))
	if u := fence.Uses(b, l, 0, 0); u != (fence.Use{Open: 3, Qty: 9, Worth: 18 + 80 + 3, Net: 3, Buys: 2, Sells: 7}) {
		t.Error(u)
	}
	if u := fence.Uses(b, l, 1, 0); u != (fence.Use{Open: 1, Qty: 1, Worth: 1, Net: -3, Buys: 1}) {
		t.Error(u)
	}
	if u := fence.Uses(b, nil, 0, 1); u != (fence.Use{Open: 1, Qty: 1, Worth: 7, Buys: 1}) {
		t.Error(u)
	}
	for _, part := range []int{-1, 2} {
		if u := fence.Uses(b, l, part, 0); u != (fence.Use{}) {
			t.Error(u)
		}
	}
	if u := fence.Uses(book.Of(nil), l, 1, 0); u != (fence.Use{Net: -3}) {
		t.Error(u)
	}
}

// P27.1: May: each limit at its edge, the first one first.
func TestMay(t *testing.T) {
	tight := fence.Limits{Open: 2, Qty: 10, Worth: 100, Net: 6, Price: 3}
	f := fenced(t, tight, free)
	buy, sell := submit(1, 0, api.Buy, 10, 4), submit(1, 0, api.Sell, 10, 4)
	neither := submit(1, 0, 5, 10, 4)
	tests := []struct {
		a    seat.Ask
		u    fence.Use
		last int
		want string
	}{
		{buy, fence.Use{}, 0, ""},
		{buy, fence.Use{Open: 1, Qty: 6, Worth: 60, Net: 2}, 13, ""},
		{buy, fence.Use{Open: 2, Qty: 7, Worth: 61, Net: 3}, 14, "open"},
		{buy, fence.Use{Open: 1, Qty: 7, Worth: 61, Net: 3}, 14, "qty"},
		{buy, fence.Use{Open: 1, Qty: 6, Worth: 61, Net: 3}, 14, "worth"},
		{buy, fence.Use{Open: 1, Qty: 6, Worth: 60, Net: 3}, 14, "net"},
		{buy, fence.Use{Open: 1, Qty: 6, Worth: 60, Net: 2}, 14, "price"},
		{buy, fence.Use{}, 6, "price"},
		{buy, fence.Use{}, 1, "price"},
		{buy, fence.Use{}, 7, ""},
		{buy, fence.Use{}, -1, ""},
		{buy, fence.Use{Buys: 2}, 0, ""},
		{buy, fence.Use{Buys: 3}, 0, "net"},
		{buy, fence.Use{Sells: 6}, 0, ""},
		{buy, fence.Use{Sells: 7}, 0, "net"},
		{buy, fence.Use{Net: -6, Sells: 0}, 0, ""},
		{buy, fence.Use{Net: -7}, 0, "net"},
		{sell, fence.Use{Net: -2}, 0, ""},
		{sell, fence.Use{Net: -3}, 0, "net"},
		{sell, fence.Use{Sells: 3}, 0, "net"},
		{sell, fence.Use{Net: 6}, 0, ""},
		{sell, fence.Use{Net: 7}, 0, "net"},
		{neither, fence.Use{Buys: 6, Sells: 6}, 0, ""},
		{neither, fence.Use{Buys: 7}, 0, "net"},
		{seat.Ask{Kind: seat.Cancel}, fence.Use{Open: 9, Qty: 99, Worth: 999}, 99, ""},
		{seat.Ask{Kind: 9}, fence.Use{Open: 9}, 0, ""},
	}
	for i, x := range tests {
		err := f.May(0, x.a, x.u, x.last)
		if x.want == "" && err != nil || x.want != "" && !broken(err, x.want) {
			t.Error(i, err)
		}
		if err := f.May(1, x.a, x.u, x.last); err != nil {
			t.Error(i, err)
		}
		for _, part := range []int{-1, 2} {
			if err := f.May(part, x.a, x.u, x.last); !errors.Is(err, api.ErrNone) {
				t.Error(i, err)
			}
		}
	}
	var none *fence.Fence
	if _, ok := none.Of(0); ok || none.Within(0, fence.Use{}) || !errors.Is(none.May(0, buy, fence.Use{}, 0), api.ErrNil) {
		t.Error("of nil")
	}
}

// P27.1: Within
func TestWithin(t *testing.T) {
	f := fenced(t, fence.Limits{Open: 2, Qty: 10, Worth: 100, Net: 6, Price: 0}, free)
	for u, want := range map[fence.Use]bool{
		{}: true, {Open: 2, Qty: 10, Worth: 100, Net: 2, Buys: 4, Sells: 8}: true,
		{Open: 3}: false, {Qty: 11}: false, {Worth: 101}: false, {Net: 3, Buys: 4}: false, {Net: 1, Sells: 8}: false, {Net: 7}: false, {Net: -7}: false, {Net: -6}: true,
	} {
		if f.Within(0, u) != want || !f.Within(1, u) || f.Within(2, u) || f.Within(-1, u) {
			t.Error(u)
		}
	}
}

// P27.2
func TestAsk(t *testing.T) {
	p, err := pool.New(config)
	if err != nil {
		t.Fatal(err)
	}
	work := func() {
		for i := range 600 {
			p.Do(pool.Event{Kind: pool.Pick, Who: i % 2})
		}
	}
	f := fenced(t, fence.Limits{Open: 2, Qty: 20, Worth: 200, Net: 9, Price: 2}, free)
	if err := f.Ask(p, 0, submit(1, 0, api.Buy, 10, 5)); err != nil || !slices.Equal(p.Lines(), []int{0}) {
		t.Error(err)
	}
	work()
	if err := f.Ask(p, 1, submit(1, 0, api.Sell, 8, 3)); err != nil {
		t.Error(err)
	}
	work()
	fills := 0
	for _, e := range p.Events() {
		if e.Kind == trace.Fill {
			fills++
		}
	}
	if fills != 1 || p.Answered() != 2 {
		t.Fatal(fills)
	}
	events, lines := len(p.Uses()), len(p.Lines())
	if err := f.Ask(p, 0, submit(2, 1, api.Buy, 12, 1)); !broken(err, "price") { // the last fill was at 9
		t.Error(err)
	}
	if err := f.Ask(p, 0, submit(2, 1, api.Buy, 9, 5)); !broken(err, "net") { // it has 3, and waits for 2
		t.Error(err)
	}
	if err := f.Ask(p, 2, submit(2, 1, api.Buy, 9, 5)); !errors.Is(err, api.ErrNone) {
		t.Error(err)
	}
	if len(p.Uses()) != events || len(p.Lines()) != lines {
		t.Error("something happened")
	}
	other := submit(2, 1, api.Buy, 12, 4) // another name had no fill
	other.Terms.Name = 1
	if err := f.Ask(p, 0, other); err != nil {
		t.Error(err)
	}
	if err := f.Ask(p, 0, seat.Ask{Kind: seat.View}); err != nil || len(p.Lines()) != lines+2 {
		t.Error(err)
	}
	var none *fence.Fence
	for _, err := range []error{f.Ask(nil, 0, other), none.Ask(p, 0, other)} {
		if !errors.Is(err, api.ErrNil) {
			t.Error(err)
		}
	}
	p.Tell(trace.Event{Kind: trace.Rest, Cell: 5, Gen: 1})
	if err := f.Ask(p, 9, other); !errors.Is(err, api.ErrNone) {
		t.Error(err)
	} else if at, ok := fault.Place(err); !ok || at != len(p.Log)-1 {
		t.Error("the ledger's error", err)
	}
}

// P27.3
func TestStays(t *testing.T) {
	n := uint64(27)
	draw := func(below int) int {
		n = n*6364136223846793005 + 1442695040888963407
		return int(n >> 33 % uint64(below))
	}
	passed := 0
	for range 20000 {
		f := fenced(t, fence.Limits{Open: draw(4), Qty: draw(20), Worth: draw(200), Net: draw(20), Price: draw(10)}, free)
		u := fence.Use{Open: draw(4), Buys: draw(10), Sells: draw(10), Worth: draw(150), Net: draw(20) - 10}
		u.Qty = u.Buys + u.Sells
		a := submit(1, 0, draw(2), 1+draw(20), 1+draw(6))
		if !f.Within(0, u) || f.May(0, a, u, draw(20)) != nil {
			continue
		}
		passed++
		u.Open++
		u.Qty += a.Qty
		u.Worth += a.Qty * a.Terms.Price
		if a.Terms.Side == api.Buy {
			u.Buys += a.Qty
		} else {
			u.Sells += a.Qty
		}
		if !f.Within(0, u) {
			t.Fatal(u, a)
		}
	}
	if passed < 100 {
		t.Error("few passed", passed)
	}
}
