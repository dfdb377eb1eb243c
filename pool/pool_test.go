package pool_test

import (
	"errors"
	"math"
	"slices"
	"testing"

	"gloaming/api"
	"gloaming/cell"
	"gloaming/fault"
	"gloaming/pool"
	"gloaming/seat"
	"gloaming/trace"
)

var (
	small = api.Config{Parts: 2, Cells: 1, Names: 1, Bands: 1, Probes: 1, Fills: 2, Gens: 4}
	great = api.Config{Parts: 3, Cells: 2, Names: 1, Bands: 2, Probes: 2, Fills: 2, Gens: 9}
)

func made(t *testing.T, c api.Config) *pool.Pool {
	t.Helper()
	p, err := pool.New(c)
	if err != nil {
		t.Fatal(err)
	}
	return p
}

func submit(id, cell, side, price, qty int) seat.Ask {
	return seat.Ask{Kind: seat.Submit, ID: id, Cell: cell, Terms: api.Terms{Side: side, Price: price, Least: 1, Until: 90}, Qty: qty}
}

func line(who int, a seat.Ask) pool.Event { return pool.Event{Kind: pool.Line, Who: who, Ask: a} }

func pick(who int) pool.Event { return pool.Event{Kind: pool.Pick, Who: who} }

func picks(who, n int) []pool.Event { return slices.Repeat([]pool.Event{pick(who)}, n) }

// P13.1: New, and what a new pool has.
func TestNew(t *testing.T) {
	p := made(t, small)
	if p.R.Config != small || len(p.Outs()) != 0 || p.Answered() != 0 || len(p.Replies(0)) != 0 || len(p.Uses()) != 0 || len(p.Lines()) != 0 || len(p.Events()) != 0 {
		t.Error("a new pool")
	}
	for agent := -1; agent < 6; agent++ {
		if !p.Idle(agent) || !p.Begins(agent) {
			t.Error(agent)
		}
	}
	if p, err := pool.New(api.Config{}); p != nil || !errors.Is(err, api.ErrRange) || fault.Code(err) != api.ErrRange {
		t.Error(err)
	}
}

// P13.1, P13.2: one order, step by step.
func TestSubmit(t *testing.T) {
	p := made(t, small)
	a := submit(1, 0, api.Buy, 10, 5)
	n := seat.Steps(p.R, a)
	p.Run(pool.Event{Kind: pool.Tick, N: 3})
	if !p.Do(line(0, a)) || p.Idle(0) || p.Begins(0) || !p.Idle(1) {
		t.Error("asked")
	}
	p.Run(picks(0, n-1)...)
	if p.Answered() != 0 || p.Idle(0) {
		t.Error("answered early")
	}
	if !p.Do(pick(0)) || p.Answered() != 1 || !p.Idle(0) || p.Do(pick(0)) {
		t.Error("not answered")
	}
	want := seat.Reply{Kind: seat.Submit, Tick: 3, ID: 1}
	if l := p.Outs(); len(l) != 1 || l[0].Part != 0 || l[0].Event != 1 || !seat.Same(l[0].Reply, want) {
		t.Error(l)
	}
	if l := p.Replies(0); len(l) != 1 || !seat.Same(l[0], want) || len(p.Replies(1)) != 0 || len(p.Replies(-1)) != 0 {
		t.Error(l)
	}
	uses := append([]int{-1, -1}, slices.Repeat([]int{1}, n)...)
	if !slices.Equal(p.Uses(), append(uses, -1)) || !slices.Equal(p.Lines(), []int{1}) {
		t.Error(p.Uses(), p.Lines())
	}
	if e := p.Events(); len(e) != 2 || e[0].Kind != trace.Submit || e[1].Kind != trace.Rest {
		t.Error(e)
	}
}

// P13.1: what comes to nothing.
func TestNothing(t *testing.T) {
	p := made(t, small)
	for _, who := range []int{-1, 2, 4, math.MaxInt, math.MinInt} {
		if p.Do(line(who, seat.Ask{Kind: seat.View})) || p.Do(pool.Event{Kind: pool.Draw, Who: who}) {
			t.Error(who)
		}
	}
	for _, who := range []int{-1, 0, 1, 4, math.MaxInt, math.MinInt} {
		if p.Do(pick(who)) {
			t.Error(who)
		}
	}
	if !p.Do(pick(2)) || !p.Do(pick(3)) || p.Begins(2) || p.Begins(3) {
		t.Error("brooms")
	}
	for _, n := range []int{0, -1, math.MinInt} {
		if p.Do(pool.Event{Kind: pool.Tick, N: n}) {
			t.Error(n)
		}
	}
	if !p.Do(pool.Event{Kind: pool.Tick, N: math.MaxInt}) || p.Do(pool.Event{Kind: pool.Tick, N: 1}) || p.C.Now() != api.MaxTick {
		t.Error("the clock")
	}
	for _, kind := range []int{0, 5, -1} {
		if p.Do(pool.Event{Kind: kind}) {
			t.Error(kind)
		}
	}
	if pool.Line != 1 || pool.Tick != 2 || pool.Pick != 3 || pool.Draw != 4 {
		t.Error("kinds")
	}
	n := len(p.Uses())
	if n != 26 || slices.ContainsFunc(p.Uses(), func(n int) bool { return n != -1 }) || len(p.Lines()) != 0 {
		t.Error(n, p.Uses())
	}
}

// P13.1: a session does one thing after the other; numbers are taken as they were drawn.
func TestQueue(t *testing.T) {
	p := made(t, great)
	if !p.Do(pool.Event{Kind: pool.Draw, Who: 0, N: -3}) { // cell 3
		t.Error("a number that is drawn")
	}
	p.Run(
		pool.Event{Kind: pool.Draw, Who: 1, N: 6}, // cell 0
		pool.Event{Kind: pool.Draw, Who: 0, N: 7},
		pool.Event{Kind: pool.Draw, Who: 0, N: 7},
		line(0, submit(1, 0, api.Buy, 10, 5)),
		line(0, seat.Ask{Kind: seat.View, ID: 3}),
		line(1, submit(1, 1, api.Sell, 10, 2)),
	)
	p.Run(picks(0, 4)...)
	p.Run(picks(1, 18)...)
	if e := p.Events(); len(e) != 4 || e[3].Kind != trace.Over || e[2].Kind != trace.Fill || e[2].Cell != 3 || e[2].Other != 0 || e[2].Qty != 2 {
		t.Error(e)
	}
	p.Run(picks(0, 400)...)
	p.Run(picks(1, 400)...)
	if u := p.Uses(); !slices.Equal(u[:7], []int{4, 6, 4, -1, -1, -1, -1}) || u[7] != 4 || u[11] != 6 {
		t.Error(u[:20])
	}
	l := p.Outs()
	if len(l) != 3 || l[0].Event != 4 || l[1].Event != 5 || l[2].Event != 6 || l[2].Part != 1 {
		t.Error(l)
	}
	if len(l[1].Reply.Looks) != 2 || l[1].Reply.Looks[0] != (seat.Look{Kind: 1, Left: 3, Fills: 1}) {
		t.Error(l[1])
	}
	l[1].Reply.Looks[0].Left = 99
	p.Replies(0)[1].Looks[0].Left = 98
	p.Events()[0].Qty = 97
	p.Uses()[0] = 96
	p.Lines()[0] = 95
	if p.Outs()[1].Reply.Looks[0].Left != 3 || p.Events()[0].Qty != 5 || p.Uses()[0] != 4 || !slices.Equal(p.Lines(), []int{4, 5, 6}) {
		t.Error("what was handed out is kept")
	}
}

// P13.1: brooms are picked by their numbers.
func TestBrooms(t *testing.T) {
	p := made(t, great)
	p.Run(line(0, submit(1, 0, api.Buy, 10, 5)))
	p.Run(picks(0, 300)...)
	p.Run(line(1, submit(1, 0, api.Buy, 9000, 5)))
	p.Run(picks(1, 300)...)
	p.Run(pool.Event{Kind: pool.Tick, N: 90})
	p.Run(picks(p.R.Reaper(0), 24)...)
	kinds := func() []int {
		var l []int
		for c := range p.R.All() {
			l = append(l, cell.State(p.M.Words()[p.R.StateAt(c)]).Kind)
		}
		return l
	}
	if !slices.Equal(kinds(), []int{api.Expired, 0, api.Rest, 0, 0, 0}) || !p.Begins(p.R.Reaper(0)) {
		t.Error(kinds())
	}
	p.Run(picks(p.R.Reaper(1), 13)...)
	if !slices.Equal(kinds(), []int{api.Expired, 0, api.Expired, 0, 0, 0}) || p.Begins(p.R.Reaper(1)) || !p.Begins(p.R.Sweeper(1)) {
		t.Error(kinds())
	}
}

// P13.2: of nil.
func TestNil(t *testing.T) {
	var p *pool.Pool
	for kind := range 6 {
		if p.Do(pool.Event{Kind: kind, N: 1}) {
			t.Error(kind)
		}
	}
	p.Run(pick(0))
	if len(p.Outs()) != 0 || p.Answered() != 0 || len(p.Replies(0)) != 0 || len(p.Uses()) != 0 || len(p.Lines()) != 0 || len(p.Events()) != 0 || !p.Idle(0) || !p.Begins(0) {
		t.Error("of nil")
	}
}

// drawn is a source of numbers for scripts.
type drawn uint64

func (d *drawn) below(n int) int {
	*d = *d*6364136223846793005 + 1442695040888963407
	return int(*d >> 33 % drawn(n))
}

// script is a script of so many events.
func script(d *drawn, r *pool.Pool, n int) []pool.Event {
	ids := make([]int, r.R.Parts)
	var l []pool.Event
	for len(l) < n {
		who := d.below(r.R.Parts)
		switch d.below(8) {
		case 0, 1:
			ids[who]++
			a := submit(ids[who], d.below(r.R.Cells), d.below(2), 4996+d.below(8), 1+d.below(8))
			a.Terms.Until = 1 + d.below(40)
			switch d.below(6) {
			case 0:
				a = seat.Ask{Kind: seat.Cancel, ID: max(1, ids[who]-1-d.below(3)), Cell: d.below(r.R.Cells)}
			case 1:
				a = seat.Ask{Kind: seat.Poll, Cell: d.below(r.R.Cells)}
			case 2:
				a = seat.Ask{Kind: seat.View}
			}
			l = append(l, line(who, a))
		case 2:
			l = append(l, pool.Event{Kind: pool.Tick, N: 1})
		case 3:
			l = append(l, pool.Event{Kind: pool.Draw, Who: who, N: d.below(99)})
		default:
			agent := who
			if d.below(2) == 0 {
				agent = d.below(r.R.Agents())
			}
			l = append(l, picks(agent, 1+d.below(60))...)
		}
	}
	return l[:n]
}

// filled are the Lines whose orders were filled.
func filled(c api.Config, l []pool.Event) map[int]int {
	p, _ := pool.New(c)
	of := map[[2]int]int{}
	had := map[int]int{}
	for i, e := range l {
		was := len(p.Log)
		p.Do(e)
		for _, x := range p.Log[was:] {
			switch x.Kind {
			case trace.Submit:
				of[[2]int{x.Cell, x.Gen}] = p.Uses()[i]
			case trace.Fill:
				had[of[[2]int{x.Cell, x.Gen}]]++
				had[of[[2]int{x.Other, x.With}]]++
			}
		}
	}
	return had
}

// P13.3, P13.4
func TestAlone(t *testing.T) {
	d := drawn(1)
	erased, fills := 0, 0
	for range 60 {
		p := made(t, great)
		l := script(&d, p, 2500)
		p.Run(l...)
		if at, err := trace.Play(p.R, p.Events()...); err != nil {
			t.Fatal(at, err)
		}
		had := filled(great, l)
		fills += len(had)
		codes := map[int]api.Code{}
		for _, o := range p.Outs() {
			codes[o.Event] = o.Reply.Code
		}
		for part := range great.Parts {
			gone := map[int]bool{}
			numbers := map[[2]int]bool{}
			for _, i := range p.Lines() {
				e := l[i]
				code, answered := codes[i]
				if e.Who == part || e.Ask.Kind != seat.Submit || !answered {
					continue
				}
				if code != 0 {
					gone[i] = true
				} else if had[i] == 0 {
					gone[i] = true
					numbers[[2]int{e.Who, e.Ask.ID}] = true
				}
			}
			for _, i := range p.Lines() {
				if l[i].Ask.Kind == seat.Cancel && numbers[[2]int{l[i].Who, l[i].Ask.ID}] {
					gone[i] = true
				}
			}
			erased += len(gone)
			uses := p.Uses()
			var bare []pool.Event
			for i, e := range l {
				if !gone[i] && !gone[uses[i]] {
					bare = append(bare, e)
				}
			}
			q := made(t, great)
			q.Run(bare...)
			if !slices.EqualFunc(p.Replies(part), q.Replies(part), seat.Same) {
				t.Fatal("told something else", part, p.Replies(part), q.Replies(part))
			}
		}
	}
	if erased < 500 || fills < 50 {
		t.Error("too little", erased, fills)
	}
}
