package broom_test

import (
	"testing"

	"gloaming/api"
	"gloaming/broom"
	"gloaming/cell"
	"gloaming/pair"
	"gloaming/record"
	"gloaming/rules"
	"gloaming/terms"
	"gloaming/trace"
)

func world(t *testing.T, c api.Config) *pair.World {
	t.Helper()
	r, err := rules.New(c)
	if err != nil {
		t.Fatal(err)
	}
	w, err := pair.New(r)
	if err != nil {
		t.Fatal(err)
	}
	return w
}

var (
	small = api.Config{Parts: 2, Cells: 1, Names: 1, Bands: 1, Fills: 2, Gens: 2}
	great = api.Config{Parts: 3, Cells: 2, Names: 2, Bands: 3, Fills: 2, Gens: 2}
)

// place lays an order into a cell, as a Submit and a Rest would.
func place(t *testing.T, w *pair.World, c, kind int, x api.Terms, qty int) {
	t.Helper()
	_, was := w.State(c)
	s, err := cell.Begin(was, qty, w.R.Gens)
	if err != nil {
		t.Fatal(err)
	}
	s.Kind = kind
	word, err := terms.Word(x)
	if err != nil {
		t.Fatal(err)
	}
	state, _ := cell.Word(s)
	w.M.Store(w.R.TermsAt(c), word)
	w.M.Store(w.R.StateAt(c), state)
	w.Tell(trace.Event{Kind: trace.Submit, Cell: c, Gen: s.Gen, Terms: x, Qty: qty})
	w.Tell(trace.Event{Kind: trace.Rest, Cell: c, Gen: s.Gen})
}

func state(w *pair.World, c int) api.State { return cell.State(w.M.Words()[w.R.StateAt(c)]) }

// P12.1, P12.2: passes, and how many steps they have, whatever there is.
func TestPasses(t *testing.T) {
	for _, c := range []api.Config{small, great} {
		w := world(t, c)
		place(t, w, 0, api.Rest, api.Terms{Price: 9, Least: 1, Until: 5}, 3)
		s, p := broom.NewSweeper(0), broom.NewReaper(0)
		sweep, reap := broom.SweepSteps(w.R), broom.ReapSteps(w.R)
		if sweep != 14*w.R.All()*w.R.All() || reap != 4*w.R.All() {
			t.Error(sweep, reap)
		}
		for i := range 2*sweep + 1 {
			if s.Begins() != (i%sweep == 0) || s.Passes() != i/sweep {
				t.Fatal("sweeper", i)
			}
			was := w.M.Steps()
			s.Step(w)
			if w.M.Steps() > was+1 {
				t.Fatal("steps")
			}
		}
		for i := range 2*reap + 1 {
			if p.Begins() != (i%reap == 0) || p.Passes() != i/reap {
				t.Fatal("reaper", i)
			}
			was := w.M.Steps()
			p.Step(w)
			if w.M.Steps() > was+1 {
				t.Fatal("steps")
			}
		}
	}
	w := world(t, small)
	if broom.SweepSteps(w.R) != 56 || broom.ReapSteps(w.R) != 8 {
		t.Error("of two participants with a cell")
	}
}

// P12.1: of nil.
func TestNil(t *testing.T) {
	var s *broom.Sweeper
	var p *broom.Reaper
	s.Step(world(t, small))
	p.Step(world(t, small))
	if !s.Begins() || !p.Begins() || s.Passes() != 0 || p.Passes() != 0 {
		t.Error("of nil")
	}
	s, p = broom.NewSweeper(0), broom.NewReaper(0)
	s.Step(nil)
	p.Step(nil)
	if !s.Begins() || !p.Begins() {
		t.Error("a step without a world")
	}
}

// P12.1: a sweeper's tries come cell by cell.
func TestSweeper(t *testing.T) {
	w := world(t, great)
	place(t, w, 0, api.Rest, api.Terms{Price: 10, Least: 1, Until: 50}, 5)
	place(t, w, 2, api.Rest, api.Terms{Side: api.Sell, Price: 8, Least: 1, Until: 50}, 4)
	place(t, w, 4, api.Rest, api.Terms{Side: api.Sell, Price: 6, Least: 1, Until: 50}, 4)
	s := broom.NewSweeper(0)
	for i := range broom.SweepSteps(w.R) {
		s.Step(w)
		if (i < 2*14+5) != (state(w, 2).Kind == api.Rest) || (i < 4*14+5) != (state(w, 4).Left == 4) {
			t.Fatal(i, state(w, 2), state(w, 4))
		}
	}
	if state(w, 0).Kind != api.Filled || state(w, 4).Left != 3 {
		t.Error(state(w, 0), state(w, 4))
	}
}

// P12.1: a reaper ends what is due in its shard, and tells it.
func TestReaper(t *testing.T) {
	w := world(t, great)
	due := api.Terms{Name: 1, Price: 5000, Least: 1, Until: 7}
	late, elsewhere := due, due
	late.Until = 8
	elsewhere.Price = 1
	place(t, w, 0, api.Rest, due, 5)
	place(t, w, 1, api.Hot, due, 5)
	place(t, w, 2, api.RestHeld, due, 5)
	place(t, w, 3, api.Rest, late, 5)
	place(t, w, 4, api.Rest, elsewhere, 5)
	w.C.Go(7)
	p := broom.NewReaper(w.R.Shard(1, 1))
	for i := range broom.ReapSteps(w.R) {
		if i == 3 {
			w.C.Go(1)
		}
		p.Step(w)
	}
	for c, want := range []int{api.Expired, api.Expired, api.RestHeld, api.Expired, api.Rest, api.Free} {
		if state(w, c).Kind != want {
			t.Error(c, state(w, c))
		}
	}
	for c, tick := range []int{7, 8} {
		if r := record.Of(w.M.Words()[w.R.SlotAt(c, 1, 2)]); r != (api.Record{Kind: record.Expired, Qty: 5, Tick: tick}) {
			t.Error(c, r)
		}
	}
	want := trace.Event{Kind: trace.Expire, Cell: 0, Gen: 1, Tick: 7}
	if w.Log[10] != want || len(w.Log) != 13 {
		t.Error(w.Log)
	}
}

// P12.1: who is filled between the load and the swap isn't ended.
func TestReaperFails(t *testing.T) {
	w := world(t, small)
	place(t, w, 0, api.Rest, api.Terms{Price: 9, Least: 1, Until: 5}, 3)
	w.C.Go(5)
	p := broom.NewReaper(0)
	p.Step(w)
	p.Step(w)
	word, s := w.State(0)
	s.Left = 2
	w.Turn(0, word, s)
	log := len(w.Log)
	p.Step(w)
	was := w.M.Steps()
	p.Step(w)
	if state(w, 0) != s || len(w.Log) != log || w.M.Steps() != was {
		t.Error(state(w, 0), w.Log)
	}
}

// P12.3
func TestRest(t *testing.T) {
	n := uint64(9)
	draw := func(below int) int {
		n = n*6364136223846793005 + 1442695040888963407
		return int(n >> 33 % uint64(below))
	}
	fills := 0
	for range 300 {
		w := world(t, great)
		for c := range w.R.All() {
			if draw(5) > 0 {
				place(t, w, c, api.Rest, api.Terms{Name: draw(2), Side: draw(2), Price: 3330 + draw(6), Least: 1 + draw(2), Until: 1 + draw(60)}, 2+draw(6))
			}
		}
		w.C.Go(10)
		for shard := range w.R.Shards() {
			p := broom.NewReaper(shard)
			for p.Passes() == 0 {
				p.Step(w)
			}
		}
		for c := range w.R.All() {
			if x := w.Terms(c); cell.Loose(state(w, c)) && w.C.Due(x.Until) {
				t.Fatal("due", c)
			}
		}
		for shard := range w.R.Shards() {
			s := broom.NewSweeper(shard)
			for s.Passes() == 0 {
				s.Step(w)
			}
		}
		for x := range w.R.All() {
			for y := range w.R.All() {
				a, b := state(w, x), state(w, y)
				if w.R.Owner(x) != w.R.Owner(y) && a.Kind == api.Rest && b.Kind == api.Rest && terms.Match(w.Terms(x), w.Terms(y), a.Left, b.Left) != (terms.Fill{}) {
					t.Fatal("match", x, y)
				}
			}
		}
		if _, err := trace.Play(w.R, w.Log...); err != nil {
			t.Fatal(err)
		}
		for _, e := range w.Log {
			if e.Kind == trace.Fill {
				fills++
			}
		}
	}
	if fills < 100 {
		t.Error("few were filled", fills)
	}
}
