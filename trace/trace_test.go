package trace_test

import (
	"errors"
	"slices"
	"testing"

	"gloaming/api"
	"gloaming/fault"
	"gloaming/rules"
	"gloaming/trace"
)

func made(t *testing.T, fills int) rules.Rules {
	t.Helper()
	r, err := rules.New(api.Config{Parts: 3, Cells: 1, Names: 2, Bands: 1, Probes: 0, Fills: fills, Gens: 2})
	if err != nil {
		t.Fatal(err)
	}
	return r
}

func buy(price int) api.Terms  { return api.Terms{Side: api.Buy, Price: price, Least: 1, Until: 50} }
func sell(price int) api.Terms { return api.Terms{Side: api.Sell, Price: price, Least: 1, Until: 50} }

func submit(cell, gen int, x api.Terms, qty int) trace.Event {
	return trace.Event{Kind: trace.Submit, Cell: cell, Gen: gen, Terms: x, Qty: qty}
}

func of(kind, cell int) trace.Event { return trace.Event{Kind: kind, Cell: cell, Gen: 1} }

func at(e trace.Event, tick int) trace.Event { e.Tick = tick; return e }

func end(cell, end int) trace.Event {
	return trace.Event{Kind: trace.Over, Cell: cell, Gen: 1, End: end}
}

func fill(cell, other, qty, price int) trace.Event {
	return trace.Event{Kind: trace.Fill, Cell: cell, Gen: 1, Other: other, With: 1, Qty: qty, Price: price}
}

// two is a buy of 5 at 10 in cell 0, and a sell of 3 at 8 in cell 1.
func two() []trace.Event {
	return []trace.Event{submit(0, 1, buy(10), 5), submit(1, 1, sell(8), 3)}
}

// P9.1: each event may happen, or can't, as the table has it.
func TestTable(t *testing.T) {
	late := submit(2, 1, buy(10), 5)
	late.Terms.Until = 0
	kind := func(n int) trace.Event { return trace.Event{Kind: n, Cell: 0, Gen: 1} }
	spent := append(two(), fill(1, 0, 3, 9)) // the sell is held, and filled, but not over yet
	tests := []struct {
		name  string
		ahead []trace.Event
		e     trace.Event
		want  error
	}{
		{"submit", nil, submit(2, 1, buy(1), 1), nil},
		{"submit", nil, submit(3, 9, late.Terms, 0), api.ErrCell},
		{"submit", nil, submit(-1, 1, buy(1), 1), api.ErrCell},
		{"submit", two(), submit(0, 1, late.Terms, 0), api.ErrBusy},
		{"submit", append(two(), of(trace.Cancel, 0)), submit(0, 2, buy(1), 1), nil},
		{"submit", append(two(), of(trace.Cancel, 0)), submit(0, 1, late.Terms, 0), api.ErrIdent},
		{"submit", append(two(), of(trace.Cancel, 0)), submit(0, 3, late.Terms, 0), api.ErrIdent},
		{"submit", nil, submit(0, 0, buy(1), 1), api.ErrIdent},
		{"submit", append(two(), of(trace.Cancel, 0), submit(0, 2, buy(1), 1), trace.Event{Kind: trace.Cancel, Cell: 0, Gen: 2}), submit(0, 9, late.Terms, 0), api.ErrFull},
		{"submit", nil, late, api.ErrLate},
		{"submit", nil, submit(0, 1, buy(0), 1), api.ErrPrice},
		{"submit", nil, submit(0, 1, api.Terms{Price: 1, Least: 1, Until: 1}, 1), nil},
		{"submit", nil, at(submit(0, 1, buy(1), 1), 99), nil},
		{"fill", two(), fill(0, 1, 3, 9), nil},
		{"fill", two(), fill(1, 0, 3, 9), nil},
		{"fill", two(), fill(2, 1, 3, 9), api.ErrNone},
		{"fill", two(), fill(0, 2, 3, 9), api.ErrNone},
		{"fill", append(two(), of(trace.Cancel, 0)), fill(0, 2, 3, 9), api.ErrGone},
		{"fill", append(two(), of(trace.Cancel, 1)), fill(0, 1, 3, 9), api.ErrGone},
		{"fill", append(two(), of(trace.Cancel, 1)), fill(2, 1, 3, 9), api.ErrNone},
		{"fill", two(), fill(0, 0, 3, 9), api.ErrArg},
		{"fill", append(two(), of(trace.Ask, 1)), fill(0, 1, 1, 1), api.ErrGone},
		{"fill", append(two(), of(trace.Ask, 0)), fill(0, 1, 3, 9), nil},
		{"fill", append(slices.Clone(spent), submit(2, 1, sell(1), 1)), fill(1, 2, 1, 1), api.ErrGone},
		{"fill", append(slices.Clone(spent), submit(2, 1, buy(20), 1)), fill(2, 1, 1, 1), api.ErrGone},
		{"fill", two(), fill(0, 1, 2, 9), api.ErrQty},
		{"fill", two(), fill(0, 1, 3, 8), api.ErrQty},
		{"fill", []trace.Event{submit(0, 1, buy(7), 5), submit(1, 1, sell(8), 3)}, fill(0, 1, 0, 0), api.ErrQty},
		{"cancel", two(), of(trace.Cancel, 0), nil},
		{"cancel", nil, of(trace.Cancel, 0), api.ErrNone},
		{"cancel", append(two(), of(trace.Cancel, 0)), of(trace.Cancel, 0), api.ErrGone},
		{"cancel", append(two(), of(trace.Ask, 0)), of(trace.Cancel, 0), api.ErrGone},
		{"cancel", spent, of(trace.Cancel, 1), api.ErrGone},
		{"ask", two(), of(trace.Ask, 0), nil},
		{"ask", spent, of(trace.Ask, 1), nil},
		{"ask", nil, of(trace.Ask, 0), api.ErrNone},
		{"ask", append(two(), of(trace.Cancel, 0)), of(trace.Ask, 0), api.ErrGone},
		{"ask", append(two(), of(trace.Ask, 0)), of(trace.Ask, 0), api.ErrArg},
		{"expire", two(), at(of(trace.Expire, 0), 50), nil},
		{"expire", two(), at(of(trace.Expire, 0), 49), api.ErrLate},
		{"expire", spent, at(of(trace.Expire, 1), 50), api.ErrLate},
		{"expire", append(two(), of(trace.Ask, 0)), at(of(trace.Expire, 0), 50), api.ErrLate},
		{"expire", nil, at(of(trace.Expire, 0), 50), api.ErrNone},
		{"expire", append(two(), of(trace.Cancel, 0)), at(of(trace.Expire, 0), 50), api.ErrGone},
		{"rest", two(), of(trace.Rest, 0), nil},
		{"rest", append(two(), of(trace.Rest, 0)), of(trace.Rest, 0), api.ErrArg},
		{"rest", nil, of(trace.Rest, 0), api.ErrNone},
		{"rest", append(two(), of(trace.Cancel, 0)), of(trace.Rest, 0), api.ErrGone},
		{"over", spent, end(1, api.Filled), nil},
		{"over", spent, end(1, api.Retired), api.ErrArg},
		{"over", append(slices.Clone(spent), of(trace.Ask, 1)), end(1, api.Cancelled), api.ErrArg},
		{"over", append(slices.Clone(spent), of(trace.Ask, 1)), end(1, api.Filled), nil},
		{"over", two(), end(0, 0), api.ErrArg},
		{"over", two(), end(0, api.Cancelled), api.ErrArg},
		{"over", append(two(), of(trace.Ask, 0)), end(0, api.Cancelled), nil},
		{"over", append(two(), of(trace.Ask, 0)), end(0, api.Filled), api.ErrArg},
		{"over", nil, end(0, 0), api.ErrNone},
		{"over", append(two(), of(trace.Cancel, 0)), end(0, api.Cancelled), api.ErrGone},
		{"none", two(), kind(0), api.ErrForm},
		{"none", two(), kind(8), api.ErrForm},
		{"none", nil, at(kind(8), -1), api.ErrRange},
		{"early", []trace.Event{at(submit(0, 1, buy(1), 1), 3)}, at(of(trace.Rest, 0), 2), api.ErrRange},
		{"early", []trace.Event{at(submit(0, 1, buy(1), 1), 3)}, at(of(trace.Rest, 0), 3), nil},
	}
	for i, x := range tests {
		m, err := trace.Play(made(t, 2), x.ahead...)
		if err != nil {
			t.Fatal(i, err)
		}
		was := m.Orders()
		err = m.Do(x.e)
		if x.want == nil && err != nil || x.want != nil && !errors.Is(err, x.want) {
			t.Error(i, x.name, err, x.want)
		}
		if err != nil && !slices.Equal(was, m.Orders()) {
			t.Error(i, x.name, "something happened")
		}
	}
}

// P9.1: what becomes of orders.
func TestOrders(t *testing.T) {
	m, err := trace.Play(made(t, 2), append(two(), of(trace.Rest, 0), fill(0, 1, 3, 9), of(trace.Ask, 0))...)
	if err != nil {
		t.Fatal(err)
	}
	b := trace.Order{Cell: 0, Gen: 1, Terms: buy(10), Qty: 5, Left: 2, Fills: 1, Ask: true, Rests: true}
	s := trace.Order{Cell: 1, Gen: 1, Terms: sell(8), Qty: 3, Fills: 1, End: api.Filled}
	if !slices.Equal(m.Orders(), []trace.Order{b, s}) {
		t.Error(m.Orders())
	}
	if o, ok := m.Order(1, 1); !ok || o != s {
		t.Error(o, ok)
	}
	for _, x := range [][2]int{{1, 2}, {2, 1}, {-1, 0}} {
		if o, ok := m.Order(x[0], x[1]); ok || o != (trace.Order{}) {
			t.Error(o, ok)
		}
	}
	m.Orders()[0].Left = 99
	if o, _ := m.Order(0, 1); o != b {
		t.Error("what was handed out is kept")
	}
	m, err = trace.Play(made(t, 1), append(two(), fill(1, 0, 3, 9))...)
	if err != nil {
		t.Fatal(err)
	}
	if o, _ := m.Order(0, 1); o.End != api.Retired || o.Left != 2 {
		t.Error("the one that was taken", o)
	}
	if o, _ := m.Order(1, 1); o.End != 0 || o.Left != 0 {
		t.Error("the one that was held", o)
	}
	if err := m.Do(end(1, api.Filled)); err != nil {
		t.Error(err)
	}
	if o, _ := m.Order(1, 1); o.End != api.Filled {
		t.Error("let go", o)
	}
}

// P9.1: by which state an order is over.
func TestEnds(t *testing.T) {
	for want, l := range map[int][]trace.Event{
		api.Cancelled: {of(trace.Cancel, 0)},
		api.Expired:   {at(of(trace.Expire, 0), 50)},
		0:             {of(trace.Ask, 0), of(trace.Rest, 0)},
	} {
		m, err := trace.Play(made(t, 2), append(two(), l...)...)
		if o, _ := m.Order(0, 1); err != nil || o.End != want || o.Left != 5 {
			t.Error(want, o, err)
		}
	}
	m, err := trace.Play(made(t, 2), append(two(), of(trace.Ask, 0), end(0, api.Cancelled))...)
	if o, _ := m.Order(0, 1); err != nil || o.End != api.Cancelled || !o.Ask {
		t.Error(o, err)
	}
}

// P9.1: Play, and nil models.
func TestPlay(t *testing.T) {
	m, err := trace.Play(made(t, 2), append(two(), of(trace.Rest, 2), of(trace.Cancel, 0))...)
	if at, ok := fault.Place(err); !errors.Is(err, api.ErrNone) || !ok || at != 2 || len(m.Orders()) != 2 || m.Orders()[0].End != 0 {
		t.Error(err, m.Orders())
	}
	if m, err := trace.Play(made(t, 2)); err != nil || len(m.Orders()) != 0 {
		t.Error(err)
	}
	var none *trace.Model
	if !errors.Is(none.Do(trace.Event{Tick: -1}), api.ErrNil) || len(none.Orders()) != 0 {
		t.Error("of nil")
	}
	if o, ok := none.Order(0, 1); ok || o != (trace.Order{}) {
		t.Error("of nil")
	}
	if trace.Submit != 1 || trace.Over != 7 {
		t.Error("kinds")
	}
}

// P9.2: whatever happens, what is left and what was filled come to what it was; what is over stays.
func TestSums(t *testing.T) {
	n := uint64(11)
	draw := func(below int) int {
		n = n*6364136223846793005 + 1442695040888963407
		return int(n >> 33 % uint64(below))
	}
	r := made(t, 2)
	happened := 0
	for range 200 {
		m := trace.New(r)
		filled := map[[2]int]int{}
		for range 200 {
			x := api.Terms{Name: 0, Side: draw(2), Price: 8 + draw(3), Least: 1 + draw(2), Until: 1 + draw(4)}
			e := trace.Event{Kind: 1 + draw(7), Cell: draw(3), Gen: 1 + draw(2), Other: draw(3), With: 1 + draw(2), Terms: x, Qty: 1 + draw(3), Price: 8 + draw(3), End: 5 + draw(4), Tick: draw(5)}
			was := m.Orders()
			if m.Do(e) != nil {
				continue
			}
			happened++
			if e.Kind == trace.Fill {
				filled[[2]int{e.Cell, e.Gen}] += e.Qty
				filled[[2]int{e.Other, e.With}] += e.Qty
			}
			for i, o := range m.Orders() {
				if o.Left+filled[[2]int{o.Cell, o.Gen}] != o.Qty || o.Left < 0 || i < len(was) && was[i].End != 0 && was[i] != o {
					t.Fatal(e, o)
				}
			}
		}
	}
	if happened < 1000 {
		t.Error("too little happened", happened)
	}
}
