package settle_test

import (
	"slices"
	"testing"

	"gloaming/api"
	"gloaming/broom"
	"gloaming/cell"
	"gloaming/pool"
	"gloaming/seat"
	"gloaming/settle"
	"gloaming/terms"
	"gloaming/trace"
)

var great = api.Config{Parts: 3, Cells: 2, Names: 1, Bands: 2, Probes: 2, Fills: 2, Gens: 9}

func made(t *testing.T, c api.Config) *pool.Pool {
	t.Helper()
	p, err := pool.New(c)
	if err != nil {
		t.Fatal(err)
	}
	return p
}

func submit(id, cell, side, price, qty, until int) seat.Ask {
	return seat.Ask{Kind: seat.Submit, ID: id, Cell: cell, Terms: api.Terms{Side: side, Price: price, Least: 1, Until: until}, Qty: qty}
}

// place lays an order that rests into a new pool's cell.
func place(p *pool.Pool, c, side, price, qty, until int) {
	w, _ := terms.Word(api.Terms{Side: side, Price: price, Least: 1, Until: until})
	p.M.Store(p.R.TermsAt(c), w)
	p.Turn(c, 0, api.State{Kind: api.Rest, Gen: 1, Left: qty})
}

func line(who int, a seat.Ask) pool.Event { return pool.Event{Kind: pool.Line, Who: who, Ask: a} }

func picks(who, n int) []pool.Event {
	return slices.Repeat([]pool.Event{{Kind: pool.Pick, Who: who}}, n)
}

// P14.1: which picks, in which order.
func TestPicks(t *testing.T) {
	p := made(t, great)
	r := p.R
	if l := settle.Finish(p); len(l) != 0 {
		t.Error("of a new pool", len(l))
	}
	view := seat.Ask{Kind: seat.View}
	p.Run(line(2, view), line(2, view), line(0, view))
	p.Run(picks(2, 1)...)
	p.Run(picks(r.Sweeper(1), 5)...)
	p.Run(picks(r.Reaper(0), broom.ReapSteps(r)+3)...)
	steps := seat.Steps(r, view)
	want := slices.Concat(picks(0, steps), picks(2, 2*steps-1), picks(r.Sweeper(1), broom.SweepSteps(r)-5), picks(r.Reaper(0), broom.ReapSteps(r)-3))
	if l := settle.Finish(p); !slices.Equal(l, want) {
		t.Error(l)
	}
	for agent := range r.Agents() {
		if !p.Begins(agent) {
			t.Error(agent)
		}
	}
	want = nil
	for shard := range r.Shards() {
		want = append(want, picks(r.Reaper(shard), broom.ReapSteps(r))...)
	}
	for shard := range r.Shards() {
		want = append(want, picks(r.Sweeper(shard), broom.SweepSteps(r))...)
	}
	if l := settle.Settle(p); !slices.Equal(l, want) {
		t.Error(len(l), len(want))
	}
	p.Run(line(1, view))
	if l := settle.Settle(p); !slices.Equal(l, slices.Concat(picks(1, steps), want)) {
		t.Error(len(l))
	}
}

// P14.1: Most
func TestMost(t *testing.T) {
	r := made(t, great).R
	brooms := 2 * 2 * (4*6 + 14*36)
	if n := settle.Most(r); n != brooms {
		t.Error(n)
	}
	a := submit(1, 0, api.Buy, 1, 1, 9)
	if n := settle.Most(r, a, seat.Ask{Kind: seat.View}, seat.Ask{}); n != brooms+seat.Steps(r, a)+4+1 {
		t.Error(n)
	}
	c := great
	c.Bands = 3
	if n := settle.Most(made(t, c).R); n != 2*3*(4*6+14*36) {
		t.Error(n)
	}
}

// P14.2
func TestLooking(t *testing.T) {
	p := made(t, great)
	place(p, 1, api.Buy, 10, 5, 20)
	place(p, 2, api.Sell, 9, 2, 10)
	place(p, 5, api.Sell, 8, 3, 20)
	place(p, 0, api.Sell, 1, 3, 20)
	steps := p.M.Steps()
	l := settle.Cells(p)
	if len(l) != 6 || l[1].State != (api.State{Kind: api.Rest, Gen: 1, Left: 5}) || l[1].Terms.Price != 10 || l[3] != (settle.Cell{}) {
		t.Error(l)
	}
	if m := settle.Matches(p); !slices.Equal(m, [][2]int{{1, 2}, {1, 5}}) {
		t.Error(m)
	}
	if len(settle.Due(p)) != 0 || !settle.Quiet(p) || settle.Clear(p) {
		t.Error("due")
	}
	p.C.Go(10)
	if d := settle.Due(p); !slices.Equal(d, []int{2}) {
		t.Error(d)
	}
	p.C.Go(10)
	if d := settle.Due(p); !slices.Equal(d, []int{0, 1, 2, 5}) {
		t.Error(d)
	}
	if p.M.Steps() != steps {
		t.Error("looking took steps")
	}
	for _, s := range []api.State{{Kind: api.RestHeld, Left: 1}, {Kind: api.HotHeld, Left: 1}, {Kind: api.Filled, Flag: true}, {Kind: api.Hot, Flag: true, Left: 1}} {
		p := made(t, great)
		p.Turn(3, 0, s)
		if settle.Quiet(p) || settle.Clear(p) || len(settle.Due(p)) != map[bool]int{true: 1}[cell.Live(s)] {
			t.Error(s)
		}
	}
}

// P14.2: held orders match, too.
func TestHeld(t *testing.T) {
	p := made(t, great)
	place(p, 0, api.Buy, 10, 5, 20)
	place(p, 2, api.Sell, 9, 2, 20)
	word, s := p.State(0)
	p.Turn(0, word, cell.Hold(s))
	if m := settle.Matches(p); !slices.Equal(m, [][2]int{{0, 2}}) || settle.Quiet(p) {
		t.Error(m)
	}
}

// P14.2: of nil.
func TestNil(t *testing.T) {
	if len(settle.Finish(nil)) != 0 || len(settle.Settle(nil)) != 0 || len(settle.Cells(nil)) != 0 || !settle.Quiet(nil) || !settle.Clear(nil) || len(settle.Due(nil)) != 0 || len(settle.Matches(nil)) != 0 {
		t.Error("of nil")
	}
}

// P14.3
func TestClear(t *testing.T) {
	n := uint64(4)
	below := func(k int) int {
		n = n*6364136223846793005 + 1442695040888963407
		return int(n >> 33 % uint64(k))
	}
	late := 0
	for round := range 80 {
		c := great
		c.Probes, c.Fills, c.Names = round%4, 1+round%3, 1+round%2
		p := made(t, c)
		ids := make([]int, c.Parts)
		var asked []seat.Ask
		for range 300 {
			who := below(c.Parts)
			switch below(6) {
			case 0, 1:
				ids[who]++
				a := submit(ids[who], below(c.Cells), below(2), 4996+below(8), 1+below(8), p.C.Now()+1+below(30))
				a.Terms.Name, a.Terms.Least = below(c.Names), 1+below(2)
				if below(5) == 0 {
					a = seat.Ask{Kind: seat.Cancel, ID: max(1, ids[who]-1-below(3)), Cell: below(c.Cells)}
				}
				asked = append(asked, a)
				p.Do(line(who, a))
			case 2:
				p.Do(pool.Event{Kind: pool.Tick, N: 1})
			case 3:
				p.Do(pool.Event{Kind: pool.Draw, Who: who, N: below(99)})
			default:
				p.Run(picks([]int{who, below(p.R.Agents())}[below(2)], 1+below(60))...)
			}
		}
		was := len(p.Log)
		if !settle.Clear(p) {
			late++
		}
		l := settle.Settle(p)
		if !settle.Clear(p) || len(l) > settle.Most(p.R, asked...) {
			t.Fatal(round, len(l), settle.Due(p), settle.Matches(p))
		}
		if _, err := trace.Play(p.R, p.Log...); err != nil {
			t.Fatal(err)
		}
		if slices.ContainsFunc(p.Log[was:], func(e trace.Event) bool { return e.Kind == trace.Submit }) {
			late++
		}
	}
	if late < 20 {
		t.Error("little to settle", late)
	}
}
