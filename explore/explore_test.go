package explore_test

import (
	"slices"
	"testing"

	"gloaming/api"
	"gloaming/cell"
	"gloaming/explore"
	"gloaming/pool"
	"gloaming/seat"
	"gloaming/settle"
	"gloaming/trace"
)

var small = api.Config{Parts: 2, Cells: 1, Names: 1, Bands: 1, Probes: 1, Fills: 2, Gens: 3}

func submit(who, id, side, price, qty int) pool.Event {
	return pool.Event{Kind: pool.Line, Who: who, Ask: seat.Ask{Kind: seat.Submit, ID: id, Terms: api.Terms{Side: side, Price: price, Least: 1, Until: 90}, Qty: qty}}
}

func picks(agents ...int) []pool.Event {
	var l []pool.Event
	for _, a := range agents {
		l = append(l, pool.Event{Kind: pool.Pick, Who: a})
	}
	return l
}

func same(a, b explore.Found) bool {
	return a.Runs == b.Runs && a.Ends == b.Ends && a.Cut == b.Cut && slices.Equal(a.Bad, b.Bad)
}

// P25.1: how many rows there are, in which order, and what they come to.
func TestRows(t *testing.T) {
	script := []pool.Event{submit(0, 1, api.Buy, 10, 5), submit(1, 1, api.Sell, 8, 3)}
	var rows [][2]int // steps of both sessions
	see := func(p *pool.Pool) bool {
		n := [2]int{}
		for _, line := range p.Uses() {
			if line >= 0 {
				n[line]++
			}
		}
		rows = append(rows, n)
		return true
	}
	if f := explore.All(small, script, []int{0, 1}, 3, see); !same(f, explore.Found{Runs: 8, Ends: 3}) {
		t.Error(f)
	}
	if !slices.Equal(rows, [][2]int{{3, 0}, {2, 1}, {2, 1}, {1, 2}, {2, 1}, {1, 2}, {1, 2}, {0, 3}}) {
		t.Error(rows)
	}
	tests := []struct {
		agents      []int
		depth, runs int
		cut         bool
	}{
		{[]int{0, 1}, 0, 1, false}, {[]int{0, 1}, -5, 1, false}, {nil, 0, 1, false}, {nil, 1, 0, false}, {nil, 3, 0, false}, {[]int{7}, 99, 1, false},
		{[]int{0, 1}, 12, 4096, false}, {[]int{0, 1}, 1 << 40, 4096, false}, {[]int{0, 0, 3}, 2, 9, false}, {[]int{0, 1, 2, 3}, 6, 4096, false}, {[]int{0, 1, 2, 3, -1}, 6, 4096, true},
	}
	for i, x := range tests {
		if f := explore.All(small, nil, x.agents, x.depth, nil); f.Runs != x.runs || f.Cut != x.cut || len(f.Bad) != 0 {
			t.Error(i, f)
		}
	}
	if f := explore.All(small, script, []int{0}, 4, nil); f.Ends != 1 || f.Runs != 1 {
		t.Error(f)
	}
}

// P25.1: the first row of which it doesn't hold; holds is asked of all.
func TestBad(t *testing.T) {
	script := []pool.Event{submit(0, 1, api.Buy, 10, 5), submit(1, 1, api.Sell, 8, 3)}
	asked := 0
	f := explore.All(small, script, []int{1, 0}, 2, func(p *pool.Pool) bool {
		asked++
		return asked != 2 && asked != 3
	})
	if asked != 4 || !same(f, explore.Found{Runs: 4, Ends: f.Ends, Bad: slices.Concat(script, picks(1, 0))}) {
		t.Error(asked, f)
	}
	f = explore.All(api.Config{}, script, []int{1, 0}, 2, nil)
	if !slices.Equal(f.Bad, slices.Concat(script, picks(1, 1))) {
		t.Error("of a configuration that may not be", f)
	}
}

// P25.2
func TestSound(t *testing.T) {
	fresh := func() *pool.Pool {
		p, err := pool.New(small)
		if err != nil {
			t.Fatal(err)
		}
		p.Run(submit(0, 1, api.Buy, 10, 5), submit(1, 1, api.Sell, 8, 3))
		for range 100 {
			p.Run(picks(0)...)
		}
		for range 100 {
			p.Run(picks(1)...)
		}
		return p
	}
	if !explore.Sound(fresh()) || !explore.Once(fresh()) {
		t.Error("not sound")
	}
	turns := []func(s api.State) api.State{
		func(s api.State) api.State { s.Left++; return s },
		func(s api.State) api.State { s.Fills++; return s },
		func(s api.State) api.State { s.Kind = api.Cancelled; return s },
	}
	for i, f := range turns {
		p := fresh()
		word, s := p.State(0)
		p.Turn(0, word, f(s))
		if explore.Sound(p) {
			t.Error(i)
		}
		word, _ = p.State(0)
		p.Turn(0, word, api.State{Kind: api.RestHeld, Gen: 1, Left: 77})
		if !explore.Sound(p) {
			t.Error("of one that is held", i)
		}
	}
	p := fresh()
	word, s := p.State(1)
	p.Turn(1, word, api.State{Kind: api.Rest, Gen: 1, Left: s.Left, Fills: s.Fills})
	if explore.Sound(p) {
		t.Error("live, but over")
	}
	p = fresh()
	p.Tell(trace.Event{Kind: trace.Rest, Cell: 0, Gen: 1})
	if explore.Sound(p) {
		t.Error("a log that may not happen")
	}
	if !explore.Sound(nil) || !explore.Once(nil) {
		t.Error("of nil")
	}
}

// P25.2: more cells are held than there are agents.
func TestOnce(t *testing.T) {
	c := small
	c.Cells = 4
	p, err := pool.New(c)
	if err != nil {
		t.Fatal(err)
	}
	for n := range 5 {
		if !explore.Once(p) {
			t.Error(n)
		}
		p.Turn(n, 0, cell.Hold(api.State{Kind: api.Rest, Left: 1}))
	}
	if explore.Once(p) {
		t.Error("five of four agents")
	}
}

// P25.3
func TestAllRows(t *testing.T) {
	ahead := func(n, m int) []pool.Event {
		l := []pool.Event{submit(0, 1, api.Buy, 10, 5), submit(1, 1, api.Sell, 8, 3), {Kind: pool.Draw, Who: 0, N: 1}, {Kind: pool.Draw, Who: 1, N: 0}, {Kind: pool.Line, Who: 0, Ask: seat.Ask{Kind: seat.Cancel, ID: 1}}}
		for range n {
			l = append(l, picks(0)...)
		}
		for range m {
			l = append(l, picks(1)...)
		}
		return l
	}
	fills := 0
	for _, x := range [][2]int{{4, 4}, {5, 6}, {6, 8}, {8, 5}, {9, 9}} {
		f := explore.All(small, ahead(x[0], x[1]), []int{0, 1}, 12, func(p *pool.Pool) bool {
			ok := explore.Sound(p) && explore.Once(p)
			for _, e := range p.Log {
				if e.Kind == trace.Fill {
					fills++
				}
			}
			settle.Settle(p)
			return ok && explore.Sound(p) && settle.Clear(p)
		})
		if f.Runs != 4096 || len(f.Bad) != 0 {
			t.Fatal(x, f)
		}
	}
	if fills < 100 {
		t.Error("few fills", fills)
	}
}
