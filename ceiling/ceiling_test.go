package ceiling_test

import (
	"math"
	"slices"
	"testing"

	"gloaming/api"
	"gloaming/book"
	"gloaming/ceiling"
	"gloaming/pool"
	"gloaming/rules"
	"gloaming/seat"
	"gloaming/settle"
	"gloaming/storm"
	"gloaming/trace"
)

var great = api.Config{Parts: 6, Cells: 4, Names: 2, Bands: 2, Probes: 2, Fills: 4, Gens: 15}

func made(t *testing.T, c api.Config) rules.Rules {
	t.Helper()
	r, err := rules.New(c)
	if err != nil {
		t.Fatal(err)
	}
	return r
}

func order(cell, name, side, price, left int) book.Order {
	return book.Order{Cell: cell, Terms: api.Terms{Name: name, Side: side, Price: price, Least: 1, Until: 9}, Left: left}
}

// P31.1: the document's example, and others by hand.
func TestMost(t *testing.T) {
	r := made(t, great)
	l := []book.Order{order(0, 0, api.Buy, 9, 5), order(4, 0, api.Buy, 7, 3), order(8, 0, api.Sell, 8, 4), order(12, 0, api.Sell, 6, 4)}
	tests := []struct {
		l         []book.Order
		most, all int
	}{
		{nil, 0, 0},
		{l, 8, 8},
		{l[:2], 0, 0},
		{l[2:], 0, 0},
		{[]book.Order{order(0, 0, api.Buy, 9, 5), order(1, 0, api.Sell, 8, 4)}, 0, 0},
		{[]book.Order{order(0, 0, api.Buy, 9, 5), order(4, 0, api.Sell, 9, 4)}, 4, 4},
		{[]book.Order{order(0, 0, api.Buy, 9, 5), order(4, 0, api.Sell, 10, 4)}, 0, 0},
		{[]book.Order{order(0, 0, api.Buy, 9, 5), order(4, 1, api.Sell, 8, 4)}, 0, 0},
		{[]book.Order{order(0, 1, api.Buy, 9, 5), order(4, 1, api.Sell, 8, 4)}, 0, 4},
		{[]book.Order{order(0, 2, api.Buy, 9, 5), order(4, 2, api.Sell, 8, 4)}, 0, 0},
		{[]book.Order{order(0, 0, api.Buy, 9, 0), order(4, 0, api.Sell, 8, 4)}, 0, 0},
		{[]book.Order{order(0, 0, api.Buy, 9, 5), order(4, 0, 2, 8, 4)}, 0, 0},
		{append(slices.Clone(l), order(16, 1, api.Buy, 9, 2), order(20, 1, api.Sell, 9, 7)), 8, 10},
	}
	for i, x := range tests {
		b := book.New(r, x.l...)
		if n := ceiling.Most(r, b, 0); n != x.most {
			t.Error(i, n)
		}
		if n := ceiling.All(r, b); n != x.all {
			t.Error(i, n)
		}
	}
	if ceiling.Most(r, book.New(r, l...), 5) != 0 || ceiling.Most(r, book.New(r, l...), -1) != 0 || len(ceiling.Plan(r, book.New(r), 0)) != 0 {
		t.Error("of nothing")
	}
}

// cheapest is the least cut between buys and sells: as many as can go together at most, another way.
func cheapest(r rules.Rules, l []book.Order) int {
	var buys, sells []book.Order
	for _, o := range l {
		if o.Terms.Name != 0 {
			continue
		}
		if o.Terms.Side == api.Buy {
			buys = append(buys, o)
		} else {
			sells = append(sells, o)
		}
	}
	best := math.MaxInt
	for set := range 1 << len(buys) {
		sum := 0
		for i, buy := range buys {
			if set>>i&1 == 0 {
				sum += buy.Left
			}
		}
		for _, sell := range sells {
			for i, buy := range buys {
				if set>>i&1 == 1 && buy.Terms.Price >= sell.Terms.Price && r.Owner(buy.Cell) != r.Owner(sell.Cell) {
					sum += sell.Left
					break
				}
			}
		}
		best = min(best, sum)
	}
	return best
}

// P31.1: a plan may be, stands in order, and none is greater.
func TestPlan(t *testing.T) {
	r := made(t, great)
	n := uint64(13)
	draw := func(below int) int {
		n = n*6364136223846793005 + 1442695040888963407
		return int(n >> 33 % uint64(below))
	}
	some := 0
	for range 1500 {
		var l []book.Order
		place := map[int]int{}
		for c := range r.All() {
			if draw(3) > 0 {
				place[c] = len(l)
				l = append(l, order(c, draw(5)/4, draw(2), 1+draw(6), draw(9)))
			}
		}
		b := book.New(r, l...)
		plan := ceiling.Plan(r, b, 0)
		sum := 0
		for i, x := range plan {
			sum += x.Qty
			if i > 0 {
				was := plan[i-1]
				if place[was.Buy] > place[x.Buy] || was.Buy == x.Buy && place[was.Sell] >= place[x.Sell] {
					t.Fatal("order", plan)
				}
			}
		}
		if want := cheapest(r, l); sum != want || ceiling.Most(r, b, 0) != want || !ceiling.Right(r, b, 0, plan...) {
			t.Fatal(l, plan, want)
		}
		some += len(plan)
	}
	if some < 1000 {
		t.Error("few parts", some)
	}
}

// P31.1: Right
func TestRight(t *testing.T) {
	r := made(t, great)
	b := book.New(r, order(0, 0, api.Buy, 9, 5), order(4, 0, api.Buy, 7, 3), order(8, 0, api.Sell, 8, 4), order(12, 0, api.Sell, 6, 4), order(1, 0, api.Sell, 1, 9), order(16, 1, api.Sell, 1, 9))
	tests := []struct {
		l    []ceiling.Part
		want bool
	}{
		{nil, true},
		{[]ceiling.Part{{0, 8, 4}, {0, 12, 1}, {4, 12, 3}}, true},
		{[]ceiling.Part{{0, 8, 1}, {0, 8, 3}}, true},
		{[]ceiling.Part{{0, 8, 2}, {0, 8, 3}}, false},
		{[]ceiling.Part{{0, 8, 4}, {0, 12, 2}}, false},
		{[]ceiling.Part{{0, 12, 3}, {4, 12, 2}}, false},
		{[]ceiling.Part{{0, 8, 0}}, false},
		{[]ceiling.Part{{0, 8, -1}}, false},
		{[]ceiling.Part{{0, 8, 5}}, false},
		{[]ceiling.Part{{0, 8, math.MaxInt}, {0, 8, math.MaxInt}}, false},
		{[]ceiling.Part{{4, 8, 1}}, false},
		{[]ceiling.Part{{0, 1, 1}}, false},
		{[]ceiling.Part{{4, 1, 1}}, true},
		{[]ceiling.Part{{8, 0, 1}}, false},
		{[]ceiling.Part{{0, 16, 1}}, false},
		{[]ceiling.Part{{0, 99, 1}}, false},
		{[]ceiling.Part{{-1, 8, 1}}, false},
	}
	for i, x := range tests {
		if ceiling.Right(r, b, 0, x.l...) != x.want {
			t.Error(i)
		}
	}
	if ceiling.Right(r, b, 1, ceiling.Part{0, 8, 1}) || ceiling.Right(r, book.New(r), 0, ceiling.Part{}) {
		t.Error("of another name")
	}
}

// P31.2
func TestSettled(t *testing.T) {
	c := api.Config{Parts: 2, Cells: 1, Names: 1, Bands: 1, Probes: 0, Fills: 2, Gens: 3}
	p, err := pool.New(c)
	if err != nil {
		t.Fatal(err)
	}
	for who, side := range []int{api.Buy, api.Sell} {
		p.Do(pool.Event{Kind: pool.Line, Who: who, Ask: seat.Ask{Kind: seat.Submit, ID: 1, Terms: api.Terms{Side: side, Price: 9, Least: 1, Until: 9}, Qty: 5 - who}})
	}
	for range 400 { // step by step together: neither finds the other one at rest
		p.Do(pool.Event{Kind: pool.Pick, Who: 0})
		p.Do(pool.Event{Kind: pool.Pick, Who: 1})
	}
	if len(settle.Matches(p)) != 1 {
		t.Fatal("they don't wait")
	}
	if done, could := ceiling.Settled(p); done != 4 || could != 4 {
		t.Error(done, could)
	}
	if done, could := ceiling.Settled(p); done != 0 || could != 0 || !settle.Clear(p) {
		t.Error(done, could)
	}
	if done, could := ceiling.Settled(nil); done != 0 || could != 0 {
		t.Error("of nil")
	}
}

// P31.3
func TestNeverAbove(t *testing.T) {
	c := great
	c.Parts, c.Cells = 4, 2
	r := made(t, c)
	filled, short := 0, 0
	for seed := range uint64(40) {
		p, err := pool.New(c)
		if err != nil {
			t.Fatal(err)
		}
		p.Run(storm.Script(r, seed, storm.Mood{Ask: 8, Tick: 0, Draw: 1, Steps: 30, Price: 100, Width: 3}, 3000)...)
		steps := len(p.Log)
		done, could := ceiling.Settled(p)
		if done > could || could == 0 && done > 0 {
			t.Fatal(seed, done, could)
		}
		filled += done
		short += could - done
		if !slices.ContainsFunc(p.Log[steps:], func(e trace.Event) bool { return e.Kind == trace.Fill }) && done > 0 {
			t.Fatal("filled by nothing")
		}
	}
	if filled == 0 {
		t.Error("nothing was filled", short)
	}
}
