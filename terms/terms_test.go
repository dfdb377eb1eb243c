package terms_test

import (
	"errors"
	"math"
	"slices"
	"testing"

	"gloaming/api"
	"gloaming/fault"
	"gloaming/rules"
	"gloaming/terms"
)

func made(t *testing.T) rules.Rules {
	t.Helper()
	r, err := rules.New(api.Config{Parts: 2, Cells: 2, Names: 2, Bands: 3, Probes: 1, Fills: 2, Gens: 3})
	if err != nil {
		t.Fatal(err)
	}
	return r
}

// P7.1: Word, Of
func TestWord(t *testing.T) {
	for _, x := range []api.Terms{{}, {Name: 2, Side: 1, Price: 9998, Least: 9997, Until: api.MaxTick}, {Name: 15, Side: 1, Price: 65535, Least: 65535, Until: 1<<24 - 1}} {
		w, err := terms.Word(x)
		if err != nil || terms.Of(w) != x {
			t.Error(x, w, err)
		}
	}
	if w, err := terms.Word(api.Terms{Name: 1, Side: 1, Price: 1, Least: 1, Until: 1}); err != nil || w != 1|1<<4|1<<5|1<<21|1<<37 {
		t.Error(w, err)
	}
	for at, l := range [][]api.Terms{{{Name: 16}, {Name: -1}}, {{Side: 2}, {Side: -1}}, {{Price: 65536}}, {{Least: -1}}, {{Until: 1 << 24}, {Until: math.MinInt}}} {
		for _, x := range l {
			w, err := terms.Word(x)
			if p, ok := fault.Place(err); w != 0 || !errors.Is(err, api.ErrRange) || !ok || p != at {
				t.Error(x, w, err)
			}
		}
	}
}

// P7.1: Check, Wrong: each error, the first one first.
func TestCheck(t *testing.T) {
	r := made(t)
	good := api.Terms{Name: 1, Side: 1, Price: 9999, Least: 5, Until: 8}
	bad := api.Terms{Name: 9, Side: 9, Price: 0, Least: 0, Until: 0}
	with := func(f func(x *api.Terms)) api.Terms { x := good; f(&x); return x }
	tests := []struct {
		t        api.Terms
		qty, now int
		want     error
	}{
		{good, 5, 7, nil},
		{good, 9999, -3, nil},
		{api.Terms{Price: 1, Least: 1, Until: api.MaxTick}, 1, api.MaxTick - 1, nil},
		{bad, 0, 9, api.ErrName},
		{with(func(x *api.Terms) { x.Name = 2 }), 5, 7, api.ErrName},
		{with(func(x *api.Terms) { x.Name = -1 }), 5, 7, api.ErrName},
		{with(func(x *api.Terms) { x.Side = 2; x.Price = 0 }), 0, 7, api.ErrArg},
		{with(func(x *api.Terms) { x.Side = -1 }), 5, 7, api.ErrArg},
		{with(func(x *api.Terms) { x.Price = 0 }), 0, 7, api.ErrQty},
		{good, 10000, 7, api.ErrQty},
		{good, math.MinInt, 7, api.ErrQty},
		{with(func(x *api.Terms) { x.Price = 0; x.Least = 6 }), 5, 7, api.ErrPrice},
		{with(func(x *api.Terms) { x.Price = 10000 }), 5, 7, api.ErrPrice},
		{with(func(x *api.Terms) { x.Least = 6 }), 5, 9, api.ErrLeast},
		{with(func(x *api.Terms) { x.Least = 0 }), 5, 7, api.ErrLeast},
		{good, 5, 8, api.ErrLate},
		{with(func(x *api.Terms) { x.Until = api.MaxTick + 1 }), 5, 7, api.ErrLate},
	}
	for i, x := range tests {
		err := terms.Check(r, x.t, x.qty, x.now)
		wrong := terms.Wrong(r, x.t, x.qty, x.now)
		if x.want == nil {
			if err != nil || wrong != nil {
				t.Error(i, err, wrong)
			}
			continue
		}
		if !errors.Is(err, x.want) || len(fault.Words(err)) != 0 {
			t.Error(i, err)
		}
		if !errors.Is(wrong, x.want) || !slices.Equal(fault.Words(wrong), []string{terms.Name(x.t.Side)}) {
			t.Error(i, wrong)
		}
	}
}

// P7.1: Shard
func TestShard(t *testing.T) {
	r := made(t)
	for _, x := range []struct{ name, price, want int }{{0, 1, 0}, {1, 1, 3}, {1, 9999, 5}, {2, 1, -1}, {-1, 1, -1}, {0, 0, -1}, {0, 10000, -1}} {
		if n := terms.Shard(r, api.Terms{Name: x.name, Price: x.price}); n != x.want {
			t.Error(x, n)
		}
	}
}

// P7.2
func TestMatch(t *testing.T) {
	buy := api.Terms{Name: 1, Side: api.Buy, Price: 10, Least: 2}
	sell := api.Terms{Name: 1, Side: api.Sell, Price: 7, Least: 1}
	tests := []struct {
		a, b        api.Terms
		left, other int
		want        terms.Fill
	}{
		{buy, sell, 5, 3, terms.Fill{Qty: 3, Price: 8}},
		{buy, sell, 5, 2, terms.Fill{Qty: 2, Price: 8}},
		{buy, sell, 5, 1, terms.Fill{}},
		{buy, sell, 5, 0, terms.Fill{}},
		{buy, sell, -1, 5, terms.Fill{}},
		{buy, buy, 5, 3, terms.Fill{}},
		{sell, sell, 5, 3, terms.Fill{}},
		{buy, api.Terms{Name: 1, Side: api.Sell, Price: 10, Least: 5}, 5, 5, terms.Fill{Qty: 5, Price: 10}},
		{buy, api.Terms{Name: 1, Side: api.Sell, Price: 10, Least: 6}, 9, 5, terms.Fill{}},
		{buy, api.Terms{Name: 1, Side: api.Sell, Price: 11, Least: 1}, 5, 5, terms.Fill{}},
		{buy, api.Terms{Name: 0, Side: api.Sell, Price: 7, Least: 1}, 5, 5, terms.Fill{}},
		{buy, api.Terms{Name: 1, Side: 2, Price: 7, Least: 1}, 5, 5, terms.Fill{}},
		{api.Terms{Name: 1, Side: -1, Price: 10}, sell, 5, 5, terms.Fill{}},
		{api.Terms{Price: 5}, api.Terms{Side: 1, Price: 5}, 0, 0, terms.Fill{}},
		{api.Terms{Price: 5, Least: 1}, api.Terms{Side: 1, Price: 4, Least: 1}, 1, 9, terms.Fill{Qty: 1, Price: 4}},
	}
	for i, x := range tests {
		if f := terms.Match(x.a, x.b, x.left, x.other); f != x.want {
			t.Error(i, f)
		}
		if f := terms.Match(x.b, x.a, x.other, x.left); f != x.want {
			t.Error(i, "the other way round", f)
		}
	}
}

// P7.2: Better, Name
func TestSides(t *testing.T) {
	if !terms.Better(api.Buy, 3, 2) || terms.Better(api.Buy, 2, 2) || terms.Better(api.Buy, 1, 2) {
		t.Error("Better of Buy")
	}
	for _, side := range []int{api.Sell, 2, -1} {
		if terms.Better(side, 3, 2) || terms.Better(side, 2, 2) || !terms.Better(side, 1, 2) {
			t.Error("Better of", side)
		}
	}
	if terms.Name(0) != "buy" || terms.Name(1) != "sell" || terms.Name(2) != "?" || terms.Name(-1) != "?" {
		t.Error("Name")
	}
}

// P7.3
func TestAlike(t *testing.T) {
	n := uint64(3)
	draw := func(below int) int {
		n = n*6364136223846793005 + 1442695040888963407
		return int(n >> 33 % uint64(below))
	}
	some := 0
	for range 5000 {
		a := api.Terms{Name: draw(2), Side: draw(2), Price: 1 + draw(9999), Least: 1 + draw(5), Until: 9}
		b := api.Terms{Name: draw(2), Side: draw(2), Price: 1 + draw(9999), Least: 1 + draw(5), Until: 9}
		left, other := draw(12), draw(12)
		f := terms.Match(a, b, left, other)
		if f != terms.Match(b, a, other, left) {
			t.Fatal(a, b)
		}
		if f == (terms.Fill{}) {
			continue
		}
		some++
		if f.Qty > left || f.Qty > other || f.Qty < a.Least || f.Qty < b.Least || f.Price < min(a.Price, b.Price) || f.Price > max(a.Price, b.Price) {
			t.Fatal(a, b, f)
		}
	}
	if some == 0 {
		t.Error("none matched")
	}
}
