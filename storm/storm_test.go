package storm_test

import (
	"math"
	"slices"
	"testing"

	"gloaming/api"
	"gloaming/explore"
	"gloaming/pool"
	"gloaming/rules"
	"gloaming/seat"
	"gloaming/settle"
	"gloaming/storm"
	"gloaming/trace"
)

var great = api.Config{Parts: 3, Cells: 2, Names: 2, Bands: 2, Probes: 2, Fills: 2, Gens: 9}

func made(t *testing.T) rules.Rules {
	t.Helper()
	r, err := rules.New(great)
	if err != nil {
		t.Fatal(err)
	}
	return r
}

// numbers are what a source draws, reckoned by hand.
type numbers uint64

func (n *numbers) below(k int) int {
	*n = *n*6364136223846793005 + 1442695040888963407
	if k < 1 {
		return 0
	}
	return int(uint64(*n>>33) % uint64(k))
}

// P30.1: Next, Below, Pick
func TestSource(t *testing.T) {
	s := storm.From(0)
	if n := s.Next(); n != 167951807 {
		t.Error(n)
	}
	x := numbers(0)
	x.below(1)
	for range 100 {
		if n := s.Next(); n != uint64(x.below(1<<40)) {
			t.Fatal(n)
		}
	}
	for _, n := range []int{1, 2, 7, 1 << 20, math.MaxInt, 0, -1, math.MinInt, 3} { // of all a number is drawn
		if got := s.Below(n); got != x.below(n) {
			t.Error(n, got)
		}
	}
	if n := s.Pick(); n != 0 {
		t.Error(n)
	}
	l := []int{5, -6, 7}
	for range 20 {
		if n := s.Pick(l...); n != l[x.below(3)] {
			t.Fatal(n)
		}
	}
	if s.Pick(9) != 9 || s.Below(99) != func() int { x.below(1); return x.below(99) }() {
		t.Error("Pick of one")
	}
	var none *storm.Source
	if none.Next() != 0 || none.Below(5) != 0 || none.Pick(1, 2) != 0 {
		t.Error("of nil")
	}
	if storm.Calm() != (storm.Mood{Ask: 2, Tick: 1, Draw: 1, Steps: 40, Price: 100, Width: 5}) {
		t.Error(storm.Calm())
	}
}

// expectedAsk is what is asked, drawn in the document's order.
func expectedAsk(x *numbers, m storm.Mood, id, now int) seat.Ask {
	a := seat.Ask{Kind: []int{1, 1, 1, 2, 3, 4}[x.below(6)], Cell: x.below(great.Cells)}
	switch a.Kind {
	case seat.Submit:
		a.ID = id
		a.Qty = 1 + x.below(9)
		a.Terms.Name = x.below(great.Names)
		a.Terms.Side = x.below(2)
		a.Terms.Price = min(max(m.Price+x.below(2*m.Width+1)-m.Width, 1), 9999)
		a.Terms.Least = 1 + x.below(a.Qty)
		a.Terms.Until = min(now+1+x.below(50), api.MaxTick)
	case seat.Cancel:
		a.ID = max(1, id-1-x.below(3))
	}
	return a
}

// P30.1: Ask
func TestAsk(t *testing.T) {
	r := made(t)
	kinds := map[int]int{}
	for i, m := range []storm.Mood{storm.Calm(), {}, {Price: 9999, Width: 10000}, {Price: -10000, Width: 3}, {Price: 3, Width: 9}} {
		s, x := storm.From(uint64(i)), numbers(i)
		for k := range 300 {
			now := []int{0, 17, api.MaxTick - 20, api.MaxTick}[k%4]
			a := storm.Ask(r, s, m, k, now)
			if want := expectedAsk(&x, m, k, now); a != want {
				t.Fatal(m, a, want)
			}
			kinds[a.Kind]++
		}
	}
	if len(kinds) != 4 || kinds[1] < kinds[2] {
		t.Error(kinds)
	}
	storm.Ask(r, nil, storm.Calm(), 1, 1)
}

// P30.1: Script
func TestScript(t *testing.T) {
	r := made(t)
	moods := []storm.Mood{storm.Calm(), {}, {Ask: -5, Tick: 3, Draw: -1, Steps: -7}, {Ask: 100, Tick: 2, Draw: 2, Steps: 3, Price: 7, Width: 2}}
	for i, m := range moods {
		seed := uint64(1)<<63 + uint64(i)
		x := numbers(seed)
		ids := [3]int{}
		now := 0
		var want []pool.Event
		for len(want) < 3000 {
			who := x.below(3)
			ask, ticks, draws := max(0, m.Ask), max(0, m.Tick), max(0, m.Draw)
			k := x.below(ask + ticks + draws + 4)
			switch {
			case k < ask:
				ids[who]++
				want = append(want, pool.Event{Kind: pool.Line, Who: who, Ask: expectedAsk(&x, m, ids[who], now)})
			case k < ask+ticks:
				n := 1 + x.below(3)
				now += n
				want = append(want, pool.Event{Kind: pool.Tick, N: n})
			case k < ask+ticks+draws:
				want = append(want, pool.Event{Kind: pool.Draw, Who: who, N: x.below(6)})
			default:
				other := x.below(3 + 2*4)
				agent := []int{who, who, other}[x.below(3)]
				for range 1 + x.below(m.Steps) {
					want = append(want, pool.Event{Kind: pool.Pick, Who: agent})
				}
			}
		}
		for _, n := range []int{0, 1, 17, 3000} {
			if l := storm.Script(r, seed, m, n); !slices.Equal(l, want[:n]) {
				t.Error(i, n)
			}
		}
	}
	if len(storm.Script(r, 1, storm.Calm(), -1)) != 0 || len(storm.Script(r, 1, storm.Calm(), math.MaxInt)) != 65536 {
		t.Error("too few, too many")
	}
	for _, n := range []int{10000, -10000} {
		if l := storm.Script(r, 1, storm.Mood{n, n, n, n, n, max(0, n)}, 100); len(l) != 100 {
			t.Error(len(l))
		}
	}
}

// P30.2
func TestFind(t *testing.T) {
	fills := func(p *pool.Pool) int {
		n := 0
		for _, e := range p.Log {
			if e.Kind == trace.Fill {
				n++
			}
		}
		return n
	}
	first := uint64(0)
	for ; ; first++ {
		p, _ := pool.New(great)
		p.Run(storm.Script(made(t), first, storm.Calm(), 400)...)
		if fills(p) > 0 {
			break
		}
	}
	holds := func(p *pool.Pool) bool { return fills(p) == 0 }
	b, ok := storm.Find(great, 0, 9999, 400, storm.Calm(), holds)
	if !ok || b.Seed != first {
		t.Fatal(b, ok, first)
	}
	broken := func(l []pool.Event) bool {
		p, _ := pool.New(great)
		p.Run(l...)
		return !holds(p)
	}
	if !broken(b.Script) {
		t.Error("it isn't broken")
	}
	for i := range b.Script {
		if broken(slices.Concat(b.Script[:i], b.Script[i+1:])) {
			t.Error("it could be smaller", i)
		}
	}
	if b, ok := storm.Find(great, math.MaxUint64, 3, 0, storm.Calm(), func(p *pool.Pool) bool { return false }); !ok || b.Seed != math.MaxUint64 || len(b.Script) != 0 {
		t.Error(b, ok)
	}
	next := uint64(math.MaxUint64) // and 1 is 0
	for ; !broken(storm.Script(made(t), next, storm.Calm(), 150)); next++ {
	}
	if b, ok := storm.Find(great, math.MaxUint64, 4096, 150, storm.Calm(), holds); !ok || b.Seed != next || next == math.MaxUint64 {
		t.Error(b.Seed, ok, next)
	}
	asked := 0
	storm.Find(great, 7, 5000, 0, storm.Calm(), func(p *pool.Pool) bool { asked++; return true })
	if asked != 4096 {
		t.Error(asked)
	}
	for i, f := range []func() (storm.Broken, bool){
		func() (storm.Broken, bool) { return storm.Find(api.Config{}, 0, 9, 9, storm.Calm(), holds) },
		func() (storm.Broken, bool) { return storm.Find(great, 0, 9, 9, storm.Calm(), nil) },
		func() (storm.Broken, bool) { return storm.Find(great, 0, int(first), 400, storm.Calm(), holds) },
		func() (storm.Broken, bool) {
			return storm.Find(great, 0, -1, 9, storm.Calm(), func(*pool.Pool) bool { return false })
		},
	} {
		if b, ok := f(); ok || b.Seed != 0 || len(b.Script) != 0 {
			t.Error(i, b)
		}
	}
}

// P30.3
func TestCalm(t *testing.T) {
	for i, m := range []storm.Mood{storm.Calm(), {Ask: 9, Tick: 3, Draw: 5, Steps: 200, Price: 5000, Width: 4}, {Ask: 3, Tick: 0, Draw: 2, Steps: 15, Price: 5000, Width: 1}} {
		for k, c := range []api.Config{great, {Parts: 6, Cells: 1, Names: 1, Bands: 1, Probes: 4, Fills: 1, Gens: 15}, {Parts: 2, Cells: 4, Names: 1, Bands: 4, Probes: 0, Fills: 4, Gens: 3}} {
			b, ok := storm.Find(c, uint64(1000*i+100*k), 25, 3000, m, func(p *pool.Pool) bool {
				return explore.Sound(p) && explore.Once(p)
			})
			if ok {
				t.Error(c, m, b)
			}
			b, ok = storm.Find(c, uint64(1000*i+100*k), 5, 2000, m, func(p *pool.Pool) bool {
				settle.Settle(p)
				return explore.Sound(p) && settle.Clear(p)
			})
			if ok {
				t.Error("unsettled", c, m, b)
			}
		}
	}
}
