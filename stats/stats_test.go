package stats_test

import (
	"maps"
	"slices"
	"testing"

	"gloaming/api"
	"gloaming/rules"
	"gloaming/stats"
	"gloaming/trace"
)

func made(t *testing.T) rules.Rules {
	t.Helper()
	r, err := rules.New(api.Config{Parts: 3, Cells: 2, Names: 1, Bands: 1, Fills: 2, Gens: 2})
	if err != nil {
		t.Fatal(err)
	}
	return r
}

func submit(cell, gen, side, qty, tick int) trace.Event {
	return trace.Event{Kind: trace.Submit, Cell: cell, Gen: gen, Terms: api.Terms{Side: side, Price: 10, Least: 1, Until: 50}, Qty: qty, Tick: tick}
}

// P28.1: Orders
func TestOrders(t *testing.T) {
	l := []trace.Event{
		submit(0, 1, api.Buy, 9, 2),
		submit(0, 2, api.Buy, 9, 2), // can't be
		submit(2, 1, api.Sell, 4, 3),
		{Kind: trace.Fill, Cell: 2, Gen: 1, Other: 0, With: 1, Qty: 4, Price: 10, Tick: 5},
		{Kind: trace.Fill, Cell: 2, Gen: 1, Other: 0, With: 1, Qty: 4, Price: 10, Tick: 6}, // can't be
		{Kind: trace.Rest, Cell: 0, Gen: 1, Tick: 1},                                       // can't be: too early
		{Kind: trace.Over, Cell: 2, Gen: 1, End: api.Filled, Tick: 7},
		submit(4, 1, api.Sell, 1, 8),
		{Kind: trace.Fill, Cell: 0, Gen: 1, Other: 4, With: 1, Qty: 1, Price: 10, Tick: 9},
		{Kind: trace.Over, Cell: 0, Gen: 1, End: api.Retired, Tick: 11},
		submit(5, 1, api.Sell, 3, 12),
		submit(1, 1, api.Sell, 2, 12),
		{Kind: trace.Cancel, Cell: 1, Gen: 1, Tick: 13},
		submit(1, 2, api.Buy, 6, 14),
		{Kind: trace.Expire, Cell: 1, Gen: 2, Tick: 60},
	}
	want := []stats.Order{
		{Cell: 0, Gen: 1, Qty: 9, Done: 5, Came: 2, First: 5, Ended: 11, End: api.Retired},
		{Cell: 2, Gen: 1, Qty: 4, Done: 4, Came: 3, First: 5, Ended: 7, End: api.Filled},
		{Cell: 4, Gen: 1, Qty: 1, Done: 1, Came: 8, First: 9, Ended: 9, End: api.Filled},
		{Cell: 5, Gen: 1, Qty: 3, Came: 12, First: -1, Ended: -1},
		{Cell: 1, Gen: 1, Qty: 2, Came: 12, First: -1, Ended: 13, End: api.Cancelled},
		{Cell: 1, Gen: 2, Qty: 6, Came: 14, First: -1, Ended: 60, End: api.Expired},
	}
	got := stats.Orders(made(t), l...)
	if !slices.Equal(got, want) {
		t.Error(got)
	}
	if len(stats.Orders(made(t))) != 0 {
		t.Error("of nothing")
	}
	if e := stats.Ends(got...); !maps.Equal(e, map[int]int{0: 1, api.Filled: 2, api.Cancelled: 1, api.Expired: 1, api.Retired: 1}) {
		t.Error(e)
	}
	if n := stats.Rate(got...); n != 1000*10/25 {
		t.Error(n)
	}
	if w := stats.Waits(got...); w != stats.Of(3, 2, 1) {
		t.Error(w)
	}
	if w := stats.Lives(got...); w != stats.Of(9, 4, 1, 1, 46) {
		t.Error(w)
	}
	parts := stats.Parts(made(t), append(got, stats.Order{Cell: -1}, stats.Order{Cell: 6})...)
	if len(parts) != 3 || !slices.Equal(parts[0], []stats.Order{want[0], want[4], want[5]}) || !slices.Equal(parts[1], want[1:2]) || !slices.Equal(parts[2], want[2:4]) {
		t.Error(parts)
	}
	if parts := stats.Parts(made(t)); len(parts) != 3 || len(parts[0]) != 0 {
		t.Error(parts)
	}
	for n, want := range map[int][]stats.Order{-1: nil, 0: nil, 1: {want[5]}, 3: {want[5], want[0], want[1]}, 5: {want[5], want[0], want[1], want[2], want[4]}, 99: {want[5], want[0], want[1], want[2], want[4]}} {
		if l := stats.Longest(n, got...); !slices.Equal(l, want) {
			t.Error(n, l)
		}
	}
	if len(stats.Longest(3)) != 0 {
		t.Error("of nothing")
	}
}

// P28.1: a first fill at once is the first one.
func TestAtOnce(t *testing.T) {
	l := stats.Orders(made(t), submit(0, 1, api.Buy, 9, 0), submit(2, 1, api.Sell, 4, 0), submit(4, 1, api.Sell, 1, 0),
		trace.Event{Kind: trace.Fill, Cell: 2, Gen: 1, Other: 0, With: 1, Qty: 4, Price: 10},
		trace.Event{Kind: trace.Fill, Cell: 4, Gen: 1, Other: 0, With: 1, Qty: 1, Price: 10, Tick: 3})
	if len(l) != 3 || l[0].First != 0 || l[2].First != 3 || l[0].End != api.Retired || l[0].Ended != 3 {
		t.Error(l)
	}
}

// P28.1: Wait, Life; P28.3: Idle
func TestOrder(t *testing.T) {
	tests := []struct {
		o          stats.Order
		wait, life int
		had, over  bool
		idle       bool
	}{
		{stats.Order{Came: 3, First: 9, Ended: 11, End: api.Filled, Done: 1}, 6, 8, true, true, false},
		{stats.Order{}, 0, 0, true, false, false},
		{stats.Order{First: -1}, -1, 0, false, false, false},
		{stats.Order{Came: 3, First: -1, Ended: -1}, -4, -4, false, false, false},
		{stats.Order{Came: 5, First: -1, Ended: -1}, -6, -6, false, false, false},
		{stats.Order{Came: 3, First: 9, Ended: -1}, 6, -4, true, false, false},
		{stats.Order{Came: 3, First: 0, Ended: 9}, -3, 6, true, false, false},
		{stats.Order{Came: 3, First: -5, Ended: 9, End: api.Expired}, -8, 6, false, true, true},
		{stats.Order{Came: 3, First: 4, Ended: 9, End: api.Expired, Done: 1}, 1, 6, true, true, false},
		{stats.Order{Came: 3, First: -1, Ended: 9, End: api.Cancelled}, -4, 6, false, true, false},
		{stats.Order{Came: 3, First: -1, Ended: 9, End: -1}, -4, 6, false, true, false},
		{stats.Order{Came: -1 << 40, First: 1 << 40, Ended: -1 << 40}, 1 << 41, 0, true, false, false},
	}
	for i, x := range tests {
		wait, had := x.o.Wait()
		life, over := x.o.Life()
		if wait != x.wait || had != x.had || life != x.life || over != x.over || stats.Idle(x.o) != x.idle {
			t.Error(i, wait, had, life, over)
		}
	}
}

// P28.2: Waits, Lives; P28.3: Longest: an order that has no first fill, or no end, isn't among them, whatever its number is.
func TestWithout(t *testing.T) {
	wait := stats.Order{Came: 5, First: 7, Ended: 99}
	life := stats.Order{Came: 5, First: -1, Ended: 8, End: api.Expired}
	none := stats.Order{Came: 5, First: -1, Ended: -1}
	if s := stats.Waits(none, wait, life, none); s != stats.Of(2) {
		t.Error(s)
	}
	if s := stats.Lives(none, wait, life, none); s != stats.Of(3) {
		t.Error(s)
	}
	if l := stats.Longest(9, none, wait, life, none); !slices.Equal(l, []stats.Order{life}) {
		t.Error(l)
	}
}

// P28.2: Of
func TestSpread(t *testing.T) {
	tests := []struct {
		l    []int
		want stats.Spread
	}{
		{nil, stats.Spread{}},
		{[]int{7}, stats.Spread{1, 7, 7, 7, 7, 7}},
		{[]int{3, 1, 2}, stats.Spread{3, 1, 2, 3, 3, 6}},
		{[]int{4, 1}, stats.Spread{2, 1, 1, 4, 4, 5}},
		{[]int{5, 5, -9, 0}, stats.Spread{4, -9, 0, 5, 5, 1}},
		{[]int{10, 9, 8, 7, 6, 5, 4, 3, 2, 1}, stats.Spread{10, 1, 5, 9, 10, 55}},
		{[]int{11, 10, 9, 8, 7, 6, 5, 4, 3, 2, 1}, stats.Spread{11, 1, 6, 10, 11, 66}},
		{[]int{1 << 40, -1 << 40}, stats.Spread{2, -1 << 40, -1 << 40, 1 << 40, 1 << 40, 0}},
	}
	for i, x := range tests {
		given := slices.Clone(x.l)
		if s := stats.Of(x.l...); s != x.want || !slices.Equal(given, x.l) {
			t.Error(i, s)
		}
	}
	if stats.Waits() != (stats.Spread{}) || stats.Lives(stats.Order{First: -1}) != (stats.Spread{}) {
		t.Error("of nothing")
	}
}

// P28.2: Rate, Ends
func TestRate(t *testing.T) {
	for i, x := range []struct {
		l    []stats.Order
		want int
	}{
		{nil, 0},
		{[]stats.Order{{Done: 5}}, 0},
		{[]stats.Order{{Qty: 3, Done: 2}}, 666},
		{[]stats.Order{{Qty: 3, Done: -2}}, -666},
		{[]stats.Order{{Qty: 1, Done: 1}, {Qty: 2, Done: 0}}, 333},
		{[]stats.Order{{Qty: 1 << 40, Done: 1 << 40}}, 1000},
	} {
		if n := stats.Rate(x.l...); n != x.want {
			t.Error(i, n)
		}
	}
	if len(stats.Ends()) != 0 {
		t.Error("of nothing")
	}
}
