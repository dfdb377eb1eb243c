package audit_test

import (
	"slices"
	"testing"

	"gloaming/api"
	"gloaming/audit"
	"gloaming/pool"
	"gloaming/record"
	"gloaming/rules"
	"gloaming/seat"
	"gloaming/settle"
	"gloaming/trace"
)

var great = api.Config{Parts: 3, Cells: 2, Names: 2, Bands: 2, Probes: 2, Fills: 2, Gens: 9}

func made(t *testing.T) *pool.Pool {
	t.Helper()
	p, err := pool.New(great)
	if err != nil {
		t.Fatal(err)
	}
	return p
}

func fill(at, of, num, cell, gen, qty, price, tick int) audit.Entry {
	return audit.Entry{Record: api.Record{Kind: record.Fill, Qty: qty, Price: price, Tick: tick, Cell: cell, Gen: gen}, At: at, Of: of, Num: num}
}

func end(kind, at, of, left, fills, tick int) audit.Entry {
	return audit.Entry{Record: api.Record{Kind: kind, Qty: left, Price: fills, Tick: tick}, At: at, Of: of, Num: 2}
}

// P18.1: Journal, Of
func TestJournal(t *testing.T) {
	p := made(t)
	put := func(e audit.Entry) { p.Note(e.At, e.Of, e.Num, e.Record) }
	a, b, c := fill(1, 1, 0, 4, 1, 3, 9, 5), end(record.Retired, 1, 1, 2, 1, 5), fill(1, 9, 1, 4, 2, 1, 1, 2)
	d := fill(4, 1, 0, 1, 1, 3, 9, 5)
	for _, e := range []audit.Entry{c, d, b, a} {
		put(e)
	}
	steps := p.M.Steps()
	if l := audit.Journal(p, 1); !slices.Equal(l, []audit.Entry{a, b, c}) {
		t.Error(l)
	}
	if l := audit.Of(p); !slices.Equal(l, []audit.Entry{c, a, b, d}) {
		t.Error(l)
	}
	for _, n := range []int{0, -1, 6} {
		if len(audit.Journal(p, n)) != 0 {
			t.Error(n)
		}
	}
	if p.M.Steps() != steps {
		t.Error("looking took steps")
	}
	if len(audit.Journal(nil, 0)) != 0 || len(audit.Of(nil)) != 0 {
		t.Error("of nil")
	}
}

// P18.1: Merge
func TestMerge(t *testing.T) {
	a, b, c, d, e := fill(0, 1, 0, 3, 1, 1, 1, 4), fill(0, 1, 1, 3, 1, 1, 1, 4), fill(0, 2, 0, 3, 1, 1, 1, 4), fill(1, 1, 0, 3, 1, 1, 1, 4), fill(5, 9, 9, 3, 1, 1, 1, 3)
	twin := a
	twin.Qty = 2
	none := audit.Entry{}
	one, two := []audit.Entry{d, twin, none}, []audit.Entry{b, c, e, a}
	if l := audit.Merge(one, nil, two); !slices.Equal(l, []audit.Entry{none, e, twin, a, b, c, d}) {
		t.Error(l)
	}
	if !slices.Equal(one, []audit.Entry{d, twin, none}) || !slices.Equal(two, []audit.Entry{b, c, e, a}) {
		t.Error("what was handed in is another one")
	}
	if len(audit.Merge()) != 0 || len(audit.Merge(nil, nil)) != 0 {
		t.Error("of nothing")
	}
}

// P18.2: Check
func TestCheck(t *testing.T) {
	r, err := rules.New(great)
	if err != nil {
		t.Fatal(err)
	}
	a, b := fill(0, 1, 0, 2, 1, 3, 9, 5), fill(2, 1, 0, 0, 1, 3, 9, 5)
	over := end(record.Filled, 2, 1, 0, 1, 5)
	with := func(e audit.Entry, f func(e *audit.Entry)) audit.Entry { f(&e); return e }
	tests := []struct {
		l    []audit.Entry
		want []audit.Flaw
	}{
		{nil, nil},
		{[]audit.Entry{a, b, over}, nil},
		{[]audit.Entry{over, b, a}, nil},
		{[]audit.Entry{a}, []audit.Flaw{{audit.Alone, a}}},
		{[]audit.Entry{a, with(b, func(e *audit.Entry) { e.Qty = 4 })}, []audit.Flaw{{audit.Alone, a}, {audit.Alone, with(b, func(e *audit.Entry) { e.Qty = 4 })}}},
		{[]audit.Entry{a, with(b, func(e *audit.Entry) { e.Of = 2 })}, []audit.Flaw{{audit.Alone, a}, {audit.Alone, with(b, func(e *audit.Entry) { e.Of = 2 })}}},
		{[]audit.Entry{a, b, with(b, func(e *audit.Entry) { e.Num = 1 })}, []audit.Flaw{{audit.Twice, a}}},
		{[]audit.Entry{a, with(b, func(e *audit.Entry) { e.Num = 1 })}, []audit.Flaw{{audit.Gap, with(b, func(e *audit.Entry) { e.Num = 1 })}}},
		{[]audit.Entry{a, b, with(over, func(e *audit.Entry) { e.Price = 2; e.Tick = 1 })}, []audit.Flaw{{audit.Short, with(over, func(e *audit.Entry) { e.Price = 2; e.Tick = 1 })}}},
		{[]audit.Entry{a, b, with(over, func(e *audit.Entry) { e.Tick = 4 })}, []audit.Flaw{{audit.Late, with(over, func(e *audit.Entry) { e.Tick = 4 })}}},
		{[]audit.Entry{a, b, over, {Record: api.Record{Tick: 6}, At: 2, Of: 1}}, []audit.Flaw{{audit.Late, over}}},
		{[]audit.Entry{fill(0, 1, 5, 1, 1, 1, 1, 1)}, []audit.Flaw{{audit.Gap, fill(0, 1, 5, 1, 1, 1, 1, 1)}, {audit.Own, fill(0, 1, 5, 1, 1, 1, 1, 1)}}},
		{[]audit.Entry{fill(-1, 1, 0, 6, 1, 1, 1, 1)}, []audit.Flaw{{audit.Own, fill(-1, 1, 0, 6, 1, 1, 1, 1)}}},
		{[]audit.Entry{fill(6, 1, 0, 0, 1, 1, 1, 1)}, []audit.Flaw{{audit.Alone, fill(6, 1, 0, 0, 1, 1, 1, 1)}}},
		{[]audit.Entry{fill(4, 1, 3, 0, 1, 1, 1, 9), fill(2, 1, 3, 0, 1, 1, 1, 8)}, []audit.Flaw{{audit.Alone, fill(2, 1, 3, 0, 1, 1, 1, 8)}, {audit.Alone, fill(4, 1, 3, 0, 1, 1, 1, 9)}, {audit.Gap, fill(2, 1, 3, 0, 1, 1, 1, 8)}, {audit.Gap, fill(4, 1, 3, 0, 1, 1, 1, 9)}}},
		{[]audit.Entry{{Record: api.Record{Kind: 9, Price: 7}}, {Num: 9}}, nil},
	}
	for i, x := range tests {
		given := slices.Clone(x.l)
		if l := audit.Check(r, x.l); !slices.Equal(l, x.want) || !slices.Equal(given, x.l) {
			t.Error(i, l)
		}
	}
	if audit.Alone != 1 || audit.Own != 6 {
		t.Error("kinds")
	}
}

// P18.2: Sums
func TestSums(t *testing.T) {
	l := []audit.Entry{fill(0, 1, 0, 2, 1, 3, 9, 5), end(record.Cancelled, 0, 1, 7, 2, 9), fill(0, 2, 0, 2, 1, 50, 9, 5), fill(1, 1, 0, 2, 1, 60, 9, 5), fill(0, 1, 1, 2, 1, 2, 4, 5), end(record.Filled, 0, 1, 4, 2, 1), {At: 0, Of: 1}}
	if s := audit.Sums(l, 0, 1); s != (audit.Sum{Fills: 2, Qty: 5, Worth: 35, End: record.Filled, Left: 4}) {
		t.Error(s)
	}
	if s := audit.Sums(l, 3, 1); s != (audit.Sum{}) {
		t.Error(s)
	}
	if s := audit.Sums(nil, 0, 1); s != (audit.Sum{}) {
		t.Error(s)
	}
}

// P18.3
func TestSettled(t *testing.T) {
	n := uint64(14)
	draw := func(below int) int {
		n = n*6364136223846793005 + 1442695040888963407
		return int(n >> 33 % uint64(below))
	}
	filled := 0
	for range 60 {
		p := made(t)
		ids := [3]int{}
		for range 300 {
			who := draw(3)
			switch draw(5) {
			case 0, 1:
				ids[who]++
				a := seat.Ask{Kind: seat.Submit, ID: ids[who], Cell: draw(2), Qty: 1 + draw(8), Terms: api.Terms{Name: draw(2), Side: draw(2), Price: 4996 + draw(8), Least: 1, Until: p.C.Now() + 1 + draw(40)}}
				if draw(4) == 0 {
					a = seat.Ask{Kind: seat.Cancel, ID: max(1, ids[who]-1-draw(3)), Cell: draw(2)}
				}
				p.Do(pool.Event{Kind: pool.Line, Who: who, Ask: a})
			case 2:
				p.Do(pool.Event{Kind: pool.Tick, N: 1})
			default:
				agent := []int{who, draw(p.R.Agents())}[draw(2)]
				for range draw(80) {
					p.Do(pool.Event{Kind: pool.Pick, Who: agent})
				}
			}
		}
		settle.Settle(p)
		l := audit.Of(p)
		if flaws := audit.Check(p.R, l); len(flaws) != 0 {
			t.Fatal(flaws)
		}
		var want []audit.Entry
		num := map[[2]int]int{}
		for _, e := range p.Events() {
			if e.Kind != trace.Fill {
				continue
			}
			filled++
			x, y := [2]int{e.Cell, e.Gen}, [2]int{e.Other, e.With}
			want = append(want, fill(x[0], x[1], num[x], y[0], y[1], e.Qty, e.Price, e.Tick), fill(y[0], y[1], num[y], x[0], x[1], e.Qty, e.Price, e.Tick))
			num[x]++
			num[y]++
		}
		var got []audit.Entry
		for _, e := range l {
			if e.Kind == record.Fill {
				got = append(got, e)
			}
		}
		if !slices.Equal(got, audit.Merge(want)) {
			t.Fatal(got, want)
		}
		m, err := trace.Play(p.R, p.Events()...)
		if err != nil {
			t.Fatal(err)
		}
		for _, o := range m.Orders() {
			s := audit.Sums(l, o.Cell, o.Gen)
			if s.Fills != o.Fills || s.Qty != o.Qty-o.Left || (s.End != 0) != (o.End != 0) || o.End != 0 && s.Left != o.Left {
				t.Fatal(o, s)
			}
		}
	}
	if filled < 100 {
		t.Error("few were filled", filled)
	}
}
