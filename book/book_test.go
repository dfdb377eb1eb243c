package book_test

import (
	"slices"
	"testing"

	"gloaming/api"
	"gloaming/book"
	"gloaming/pool"
	"gloaming/rules"
	"gloaming/seat"
	"gloaming/settle"
	"gloaming/terms"
)

var great = api.Config{Parts: 3, Cells: 2, Names: 2, Bands: 2, Probes: 2, Fills: 2, Gens: 9}

func made(t *testing.T) rules.Rules {
	t.Helper()
	r, err := rules.New(great)
	if err != nil {
		t.Fatal(err)
	}
	return r
}

func order(cell, name, side, price, left int) book.Order {
	return book.Order{Cell: cell, Terms: api.Terms{Name: name, Side: side, Price: price, Least: 1, Until: 50}, Left: left}
}

// P20.1
func TestOrders(t *testing.T) {
	l := []book.Order{order(3, 0, api.Buy, 9, 5), order(2, 1, api.Sell, 8, 1), order(0, 0, api.Buy, 9, 3), order(-1, 0, api.Buy, 9, 3), order(6, 0, api.Buy, 9, 3)}
	want := slices.Clone(l)
	b := book.New(made(t), l...)
	l[0].Left = 99
	if !slices.Equal(b.Orders(), want) {
		t.Error(b.Orders())
	}
	b.Orders()[0].Left = 98
	if !slices.Equal(b.Part(1), want[:2]) || !slices.Equal(b.Part(0), want[2:3]) || len(b.Part(2)) != 0 || len(b.Part(3)) != 0 {
		t.Error(b.Part(1), b.Part(0))
	}
	b.Part(1)[0].Left = 97
	if !slices.Equal(b.Orders(), want) {
		t.Error("what was handed out is kept")
	}
	if b := book.New(made(t)); len(b.Orders()) != 0 {
		t.Error("an empty book")
	}
}

// P20.1: Of
func TestOf(t *testing.T) {
	p, err := pool.New(great)
	if err != nil {
		t.Fatal(err)
	}
	for kind := range 6 {
		w, _ := terms.Word(api.Terms{Price: 10 + kind, Least: 1, Until: 50})
		p.M.Store(p.R.TermsAt(kind), w)
		p.Turn(kind, 0, api.State{Kind: kind, Gen: 1, Left: kind})
	}
	steps := p.M.Steps()
	b := book.Of(p)
	var want []book.Order
	for kind := 1; kind < 5; kind++ {
		want = append(want, book.Order{Cell: kind, Terms: api.Terms{Price: 10 + kind, Least: 1, Until: 50}, Left: kind})
	}
	if !slices.Equal(b.Orders(), want) || p.M.Steps() != steps || len(b.Part(0)) != 1 {
		t.Error(b.Orders())
	}
	if b := book.Of(nil); len(b.Orders()) != 0 || len(b.Levels(0, 0)) != 0 || b.Reach(order(0, 0, 0, 1, 1)) != 0 || b.Shard(0) != [2]book.Level{} {
		t.Error("of nil")
	}
}

// P20.2: Levels, Best, Spread
func TestLevels(t *testing.T) {
	b := book.New(made(t), order(0, 0, api.Buy, 9, 5), order(1, 0, api.Buy, 9, 3), order(2, 0, api.Buy, 11, 1), order(3, 0, api.Sell, 14, 2), order(4, 0, api.Sell, 12, 4), order(5, 1, api.Sell, 1, 7), order(0, 0, api.Buy, 3, 0), order(1, 0, 2, 5, 6), order(1, 0, 2, 4, 6))
	if l := b.Levels(0, api.Buy); !slices.Equal(l, []book.Level{{11, 1, 1}, {9, 8, 2}, {3, 0, 1}}) {
		t.Error(l)
	}
	if l := b.Levels(0, api.Sell); !slices.Equal(l, []book.Level{{12, 4, 1}, {14, 2, 1}}) {
		t.Error(l)
	}
	if l := b.Levels(0, 2); !slices.Equal(l, []book.Level{{4, 6, 1}, {5, 6, 1}}) {
		t.Error(l)
	}
	if len(b.Levels(1, api.Buy)) != 0 || len(b.Levels(2, api.Buy)) != 0 || len(b.Levels(-1, api.Buy)) != 0 {
		t.Error("levels of nothing")
	}
	for _, x := range []struct {
		name, side, want int
		ok               bool
	}{{0, api.Buy, 11, true}, {0, api.Sell, 12, true}, {1, api.Sell, 1, true}, {1, api.Buy, 0, false}, {7, 0, 0, false}} {
		if n, ok := b.Best(x.name, x.side); n != x.want || ok != x.ok {
			t.Error(x, n, ok)
		}
	}
	if n, ok := b.Spread(0); n != 1 || !ok {
		t.Error(n, ok)
	}
	if n, ok := b.Spread(1); n != 0 || ok {
		t.Error(n, ok)
	}
	if n, ok := book.New(made(t), order(0, 0, api.Buy, 9, 5), order(1, 0, api.Sell, 5, 5)).Spread(0); n != -4 || !ok {
		t.Error(n, ok)
	}
}

// P20.2: Shard
func TestShard(t *testing.T) {
	b := book.New(made(t), order(0, 1, api.Buy, 5001, 5), order(1, 1, api.Buy, 5003, 3), order(2, 1, api.Sell, 5009, 1), order(3, 1, api.Sell, 5007, 2), order(4, 1, api.Buy, 4000, 4), order(5, 2, api.Buy, 5001, 7), order(0, -1, api.Sell, 6, 8), order(0, 1, 2, 5001, 9))
	if l := b.Shard(3); l != [2]book.Level{{5003, 8, 2}, {5007, 3, 2}} {
		t.Error(l)
	}
	if l := b.Shard(2); l != [2]book.Level{{4000, 4, 1}, {}} {
		t.Error(l)
	}
	if l := b.Shard(-1); l != [2]book.Level{{5001, 7, 1}, {6, 8, 1}} {
		t.Error(l)
	}
	for _, n := range []int{0, 4, -2} {
		if b.Shard(n) != [2]book.Level{} {
			t.Error(n)
		}
	}
}

// P20.3: Reach
func TestReach(t *testing.T) {
	least := order(2, 0, api.Sell, 8, 9)
	least.Terms.Least = 7
	b := book.New(made(t), order(0, 0, api.Sell, 8, 2), order(2, 0, api.Sell, 8, 3), order(3, 0, api.Sell, 9, 2), order(4, 0, api.Sell, 10, 2), order(5, 1, api.Sell, 8, 2), order(2, 0, api.Buy, 8, 2), least, order(-1, 0, api.Sell, 8, 2))
	for i, x := range []struct {
		o    book.Order
		want int
	}{
		{order(0, 0, api.Buy, 9, 20), 3 + 2 + 9 + 2},
		{order(0, 0, api.Buy, 9, 6), 3 + 2 + 2 - 1},
		{order(0, 0, api.Buy, 8, 4), 4},
		{order(0, 0, api.Buy, 8, 0), 0},
		{order(0, 0, api.Buy, 8, -3), 0},
		{order(2, 0, api.Buy, 99, 99), 2 + 2 + 2},
		{order(-5, 0, api.Buy, 99, 99), 2 + 3 + 2 + 2 + 9},
		{order(9, 0, api.Sell, 8, 99), 2},
		{order(0, 1, api.Buy, 7, 99), 0},
	} {
		if n := b.Reach(x.o); n != x.want {
			t.Error(i, n)
		}
	}
}

// P20.3: Cross
func TestCross(t *testing.T) {
	tests := []struct {
		l          []book.Order
		price, qty int
	}{
		{nil, 0, 0},
		{[]book.Order{order(0, 0, api.Buy, 9, 5)}, 0, 0},
		{[]book.Order{order(0, 0, api.Buy, 9, 5), order(1, 0, api.Sell, 10, 5)}, 0, 0},
		{[]book.Order{order(0, 0, api.Buy, 9, 5), order(1, 0, api.Sell, 7, 3)}, 7, 3},
		{[]book.Order{order(0, 0, api.Buy, 9, 5), order(1, 1, api.Sell, 7, 3)}, 0, 0},
		{[]book.Order{order(0, 0, api.Buy, 9, 5), order(1, 0, api.Buy, 7, 3), order(2, 0, api.Sell, 8, 4), order(3, 0, api.Sell, 6, 4)}, 8, 5},
		{[]book.Order{order(0, 0, api.Buy, 9, 5), order(1, 0, api.Sell, 7, 3), order(2, 0, 2, 1, 50), order(3, 0, 2, 8, 50)}, 7, 3},
		{[]book.Order{order(0, 0, api.Buy, 9, 0), order(1, 0, api.Sell, 7, 3)}, 0, 0},
		{[]book.Order{order(0, 0, api.Buy, 9, 5), order(1, 0, api.Sell, 9, 3)}, 9, 3},
	}
	for i, x := range tests {
		if p, q := book.New(made(t), x.l...).Cross(0); p != x.price || q != x.qty {
			t.Error(i, p, q)
		}
	}
}

// P20.4
func TestSettled(t *testing.T) {
	n := uint64(21)
	draw := func(below int) int {
		n = n*6364136223846793005 + 1442695040888963407
		return int(n >> 33 % uint64(below))
	}
	spreads := 0
	for range 60 {
		c := great
		c.Fills = 4
		p, err := pool.New(c)
		if err != nil {
			t.Fatal(err)
		}
		ids := [3]int{}
		for range 120 {
			who := draw(3)
			if draw(3) == 0 {
				ids[who]++
				p.Do(pool.Event{Kind: pool.Line, Who: who, Ask: seat.Ask{Kind: seat.Submit, ID: ids[who], Cell: draw(2), Qty: 1 + draw(8), Terms: api.Terms{Name: draw(2), Side: draw(2), Price: 4996 + draw(8), Least: 1, Until: 50}}})
			}
			agent := []int{who, draw(p.R.Agents())}[draw(2)]
			for range draw(80) {
				p.Do(pool.Event{Kind: pool.Pick, Who: agent})
			}
		}
		settle.Settle(p)
		b := book.Of(p)
		for _, o := range b.Orders() {
			if b.Reach(o) != 0 {
				t.Fatal(o, b.Orders())
			}
		}
		for name := range 2 {
			n, ok := b.Spread(name)
			if !ok || !apart(p.R, b, name) {
				continue
			}
			spreads++
			if n <= 0 {
				t.Fatal(n, b.Orders())
			}
		}
	}
	if spreads < 10 {
		t.Error("few spreads", spreads)
	}
}

// apart says whether some of those that wait at both best prices are of unlike owners.
func apart(r rules.Rules, b book.Book, name int) bool {
	buy, _ := b.Best(name, api.Buy)
	sell, _ := b.Best(name, api.Sell)
	for _, x := range b.Orders() {
		for _, y := range b.Orders() {
			if x.Terms.Name == name && y.Terms.Name == name && x.Terms.Side == api.Buy && y.Terms.Side == api.Sell && x.Terms.Price == buy && y.Terms.Price == sell && r.Owner(x.Cell) != r.Owner(y.Cell) {
				return true
			}
		}
	}
	return false
}
