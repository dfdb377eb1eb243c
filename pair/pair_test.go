package pair_test

import (
	"errors"
	"slices"
	"testing"

	"gloaming/api"
	"gloaming/cell"
	"gloaming/fault"
	"gloaming/mem"
	"gloaming/pair"
	"gloaming/record"
	"gloaming/rules"
	"gloaming/terms"
	"gloaming/trace"
)

var config = api.Config{Parts: 3, Cells: 2, Names: 2, Bands: 2, Probes: 0, Fills: 2, Gens: 3}

func world(t *testing.T) *pair.World {
	t.Helper()
	r, err := rules.New(config)
	if err != nil {
		t.Fatal(err)
	}
	w, err := pair.New(r)
	if err != nil {
		t.Fatal(err)
	}
	return w
}

func order(side, price, least int) api.Terms {
	return api.Terms{Side: side, Price: price, Least: least, Until: 50}
}

// place lays an order into a cell, as a Submit (and a Rest) would.
func place(t *testing.T, w *pair.World, c, kind int, x api.Terms, qty int) {
	t.Helper()
	_, was := w.State(c)
	s, err := cell.Begin(was, qty, w.R.Gens)
	if err != nil {
		t.Fatal(err)
	}
	s.Kind = kind
	word, err := terms.Word(x)
	if err != nil {
		t.Fatal(err)
	}
	state, _ := cell.Word(s)
	w.M.Store(w.R.TermsAt(c), word)
	w.M.Store(w.R.StateAt(c), state)
	w.Tell(trace.Event{Kind: trace.Submit, Cell: c, Gen: s.Gen, Terms: x, Qty: qty})
	if kind == api.Rest {
		w.Tell(trace.Event{Kind: trace.Rest, Cell: c, Gen: s.Gen})
	}
}

func state(w *pair.World, c int) api.State { return cell.State(w.M.Words()[w.R.StateAt(c)]) }

func slot(w *pair.World, c, gen, n int) api.Record {
	return record.Of(w.M.Words()[w.R.SlotAt(c, gen, n)])
}

// finish takes all steps of a try, of which some were taken; it is which of them touched a word.
func finish(w *pair.World, p *pair.Pair, taken ...int) []int {
	var touched []int
	for i := len(taken); !p.Done(); i++ {
		was := w.M.Steps()
		p.Step(w)
		if w.M.Steps() > was {
			touched = append(touched, i)
		}
	}
	return touched
}

// P10.1
func TestWorld(t *testing.T) {
	w := world(t)
	if w.M.Len() != w.R.Words() || w.C.Now() != 0 || len(w.Log) != 0 || !slices.Equal(w.M.Words(), make([]uint64, w.R.Words())) {
		t.Error("a new world")
	}
	if w, err := pair.New(rules.Rules{}); w != nil || !errors.Is(err, api.ErrRange) {
		t.Error(err)
	} else if at, ok := fault.Place(err); !ok || at != 0 {
		t.Error(err)
	}
	if word, s := w.State(5); word != 0 || s != (api.State{}) || w.M.Steps() != 1 || w.M.Last().Kind != mem.Load || w.M.Last().At != w.R.StateAt(5) {
		t.Error("State", w.M.Last())
	}
	s := api.State{Kind: api.Rest, Gen: 1, Left: 4}
	if !w.Turn(5, 0, s) || w.M.Last().Kind != mem.Swap || w.M.Steps() != 2 || state(w, 5) != s {
		t.Error("Turn", w.M.Last())
	}
	if w.Turn(5, 0, s) || w.M.Steps() != 3 {
		t.Error("a Turn of another word")
	}
	word, got := w.State(5)
	if got != s || cell.State(word) != s {
		t.Error("State")
	}
	if w.Terms(5) != (api.Terms{}) || w.M.Last().At != w.R.TermsAt(5) || w.M.Last().Kind != mem.Load {
		t.Error("Terms")
	}
	w.C.Go(7)
	w.Note(5, 3, 2, api.Record{Kind: record.Fill, Qty: 3})
	if w.M.Last().Kind != mem.Store || w.M.Last().At != w.R.SlotAt(5, 3, 2) || slot(w, 5, 3, 2) != (api.Record{Kind: record.Fill, Qty: 3}) {
		t.Error("Note")
	}
	w.Tell(trace.Event{Kind: trace.Ask, Tick: 99})
	if len(w.Log) != 1 || w.Log[0] != (trace.Event{Kind: trace.Ask, Tick: 7}) {
		t.Error("Tell", w.Log)
	}
	was := w.M.Steps()
	w.State(6)
	w.Terms(-1)
	w.Note(6, 1, 0, api.Record{})
	w.Note(0, 4, 0, api.Record{})
	if w.Turn(9, 0, s) || w.M.Steps() != was {
		t.Error("steps of nothing")
	}
}

// P10.2, P10.3: a sweep of two that match, step by step.
func TestSweep(t *testing.T) {
	w := world(t)
	place(t, w, 0, api.Rest, order(api.Buy, 10, 1), 5)
	place(t, w, 2, api.Rest, order(api.Sell, 8, 1), 3)
	w.C.Go(4)
	p := pair.Begin(pair.Aim{Way: pair.Sweep, X: 0, Y: 2, Shard: 0})
	if p.Done() || p.Made() {
		t.Error("a new try")
	}
	if at := finish(w, p); !slices.Equal(at, []int{0, 1, 2, 3, 4, 5, 6, 7, 10, 11, 12}) {
		t.Error("steps", at)
	}
	if !p.Made() || !p.Done() {
		t.Error("not made")
	}
	if state(w, 0) != (api.State{Kind: api.Rest, Gen: 1, Left: 2, Fills: 1}) || state(w, 2) != (api.State{Kind: api.Filled, Gen: 1, Fills: 1}) {
		t.Error(state(w, 0), state(w, 2))
	}
	if slot(w, 0, 1, 0) != (api.Record{Kind: record.Fill, Qty: 3, Price: 9, Tick: 4, Cell: 2, Gen: 1}) || slot(w, 2, 1, 0) != (api.Record{Kind: record.Fill, Qty: 3, Price: 9, Tick: 4, Cell: 0, Gen: 1}) {
		t.Error(slot(w, 0, 1, 0), slot(w, 2, 1, 0))
	}
	if slot(w, 2, 1, 2) != (api.Record{Kind: record.Filled, Price: 1, Tick: 4}) || slot(w, 0, 1, 2) != (api.Record{}) {
		t.Error(slot(w, 2, 1, 2), slot(w, 0, 1, 2))
	}
	if e := w.Log[len(w.Log)-1]; len(w.Log) != 5 || e != (trace.Event{Kind: trace.Fill, Cell: 0, Gen: 1, Other: 2, With: 1, Qty: 3, Price: 9, Tick: 4}) {
		t.Error(w.Log)
	}
	was := w.M.Steps()
	p.Step(w)
	if w.M.Steps() != was {
		t.Error("a step behind the last one")
	}
	place(t, w, 4, api.Rest, order(api.Sell, 10, 1), 2)
	p = pair.Begin(pair.Aim{Way: pair.Sweep, X: 0, Y: 4})
	for range 6 {
		p.Step(w)
	}
	w.C.Go(1)
	if at := finish(w, p, make([]int, 6)...); !slices.Equal(at, []int{6, 7, 10, 11, 12, 13}) {
		t.Error("steps", at)
	}
	if slot(w, 0, 1, 2) != (api.Record{Kind: record.Filled, Price: 2, Tick: 5}) || slot(w, 4, 1, 2) != (api.Record{Kind: record.Filled, Price: 1, Tick: 4}) || slot(w, 0, 1, 1).Cell != 4 {
		t.Error("ends", slot(w, 0, 1, 2), slot(w, 4, 1, 2))
	}
	if e := w.Log[len(w.Log)-1]; e != (trace.Event{Kind: trace.Over, Cell: 0, Gen: 1, End: api.Filled, Tick: 5}) {
		t.Error(e)
	}
}

// P10.3: who is taken for a part of it isn't over: its journal is told no end.
func TestPart(t *testing.T) {
	w := world(t)
	place(t, w, 0, api.Rest, order(api.Buy, 10, 1), 3)
	place(t, w, 2, api.Rest, order(api.Sell, 8, 1), 5)
	if at := finish(w, pair.Begin(pair.Aim{Way: pair.Sweep, X: 0, Y: 2})); !slices.Equal(at, []int{0, 1, 2, 3, 4, 5, 6, 7, 10, 11, 13}) {
		t.Error("steps", at)
	}
	if slot(w, 0, 1, 2) != (api.Record{Kind: record.Filled, Price: 1}) || state(w, 2) != (api.State{Kind: api.Rest, Gen: 1, Left: 2, Fills: 1}) {
		t.Error(slot(w, 0, 1, 2), state(w, 2))
	}
}

// P10.3: who may be held, and who may be taken, by each way.
func TestWays(t *testing.T) {
	tests := []struct {
		way, kindX, kindY   int
		gen, shard          int
		sideX, sideY        int
		priceX, priceY      int
		held, made, swapped bool
	}{
		{pair.Arena, api.Hot, api.Hot, 1, 9, 0, 1, 10, 8, true, true, true},
		{pair.Arena, api.Hot, api.Hot, 1, 9, 1, 0, 8, 10, true, true, true},
		{pair.Arena, api.Hot, api.Hot, 2, 9, 0, 1, 10, 8, false, false, false},
		{pair.Arena, api.Hot, api.Rest, 1, 9, 0, 1, 10, 8, true, false, false},
		{pair.Arena, api.Rest, api.Hot, 1, 9, 0, 1, 10, 8, false, false, false},
		{pair.Arena, api.Hot, api.HotHeld, 1, 9, 0, 1, 10, 8, true, false, false},
		{pair.Arena, api.Hot, api.Hot, 1, 9, 0, 1, 7, 8, true, false, false},
		{pair.Scan, api.Hot, api.Rest, 1, 0, 0, 1, 10, 8, true, true, true},
		{pair.Scan, api.Hot, api.Rest, 1, 1, 0, 1, 10, 8, true, false, false},
		{pair.Scan, api.Hot, api.Rest, 1, 1, 0, 1, 9000, 6000, true, true, true},
		{pair.Scan, api.Hot, api.Hot, 1, 0, 0, 1, 10, 8, true, false, false},
		{pair.Scan, api.Hot, api.Rest, 3, 0, 0, 1, 10, 8, false, false, false},
		{pair.Scan, api.Rest, api.Rest, 1, 0, 0, 1, 10, 8, false, false, false},
		{pair.Sweep, api.Rest, api.Rest, 9, 0, 0, 1, 10, 8, true, true, true},
		{pair.Sweep, api.Rest, api.Rest, 9, 1, 0, 1, 10, 8, false, false, false},
		{pair.Sweep, api.Rest, api.Rest, 9, 1, 0, 1, 9000, 8, true, true, true},
		{pair.Sweep, api.Rest, api.Rest, 9, 0, 1, 0, 8, 10, false, false, false},
		{pair.Sweep, api.Rest, api.Hot, 9, 0, 0, 1, 10, 8, true, false, false},
		{pair.Sweep, api.Hot, api.Rest, 1, 0, 0, 1, 10, 8, false, false, false},
		{pair.Sweep, api.Rest, api.RestHeld, 9, 0, 0, 1, 10, 8, true, false, false},
		{0, api.Rest, api.Rest, 1, 0, 0, 1, 10, 8, false, false, false},
		{4, api.Hot, api.Hot, 1, 0, 0, 1, 10, 8, false, false, false},
	}
	for i, x := range tests {
		w := world(t)
		place(t, w, 0, x.kindX, order(x.sideX, x.priceX, 1), 5)
		place(t, w, 2, x.kindY, order(x.sideY, x.priceY, 1), 5)
		p := pair.Begin(pair.Aim{Way: x.way, X: 0, Gen: x.gen, Y: 2, Shard: x.shard})
		at := finish(w, p)
		if slices.Contains(at, 2) != x.held || slices.Contains(at, 5) != x.swapped || p.Made() != x.made || slices.Contains(at, 7) != x.held || slices.Contains(at, 8) {
			t.Error(i, at, p.Made())
		}
		for _, n := range []int{0, 1, 3, 4} {
			if !slices.Contains(at, n) {
				t.Error(i, at)
			}
		}
		if !x.made && (state(w, 0).Kind != x.kindX || state(w, 2).Kind != x.kindY || len(at) > 7) {
			t.Error(i, "something else was done")
		}
	}
}

// P10.3: no cells, or one owner's: 14 steps that touch nothing.
func TestNobody(t *testing.T) {
	for _, x := range [][2]int{{0, 1}, {0, 0}, {0, -1}, {-1, 0}, {0, 6}, {6, 0}, {7, 8}} {
		w := world(t)
		place(t, w, 0, api.Rest, order(api.Buy, 10, 1), 5)
		place(t, w, 1, api.Rest, order(api.Sell, 8, 1), 3)
		p := pair.Begin(pair.Aim{Way: pair.Sweep, X: x[0], Y: x[1]})
		was := w.M.Steps()
		for range pair.Steps {
			if p.Done() {
				t.Error("done early")
			}
			p.Step(w)
		}
		if !p.Done() || p.Made() || w.M.Steps() != was {
			t.Error(x, "touched something")
		}
	}
	if pair.Steps != 14 {
		t.Error(pair.Steps)
	}
	var none *pair.Pair
	none.Step(world(t))
	if !none.Done() || none.Made() {
		t.Error("of nil")
	}
	p := pair.Begin(pair.Aim{})
	p.Step(nil)
	for range pair.Steps {
		if p.Done() {
			t.Error("a step without a world")
		}
		p.Step(world(t))
	}
}

// P10.3: the owner of who is held asks for its end in between: who let it go sees to that, at the second time.
func TestAsked(t *testing.T) {
	for before := range pair.Steps {
		w := world(t)
		place(t, w, 0, api.Rest, order(api.Buy, 10, 1), 5)
		place(t, w, 2, api.Rest, order(api.Sell, 8, 1), 3)
		p := pair.Begin(pair.Aim{Way: pair.Sweep, X: 0, Y: 2})
		for range before {
			p.Step(w)
		}
		word, s := w.State(0)
		s, err := cell.Cancel(s)
		if err != nil || !w.Turn(0, word, s) {
			t.Fatal(err)
		}
		w.Tell(trace.Event{Kind: map[bool]int{true: trace.Ask, false: trace.Cancel}[s.Flag], Cell: 0, Gen: 1})
		w.C.Go(1)
		at := finish(w, p, make([]int, before)...)
		if slices.Contains(at, 9) != (before == 7) || slices.Contains(at, 8) != (before == 7) {
			t.Error(before, at)
		}
		if _, err := trace.Play(w.R, w.Log...); err != nil {
			t.Error(before, err)
		}
		if n := state(w, 0); n.Kind != api.Cancelled {
			t.Error(before, n)
		}
		held := before > 2 && before < 8
		if held && slot(w, 0, 1, 2) != (api.Record{Kind: record.Cancelled, Qty: 2, Price: 1, Tick: 1}) || !held && before < 3 && p.Made() {
			t.Error(before, slot(w, 0, 1, 2))
		}
	}
}

// P10.3: tries step by step, in any order, and owners that ask in between: what is told may happen, nobody stays held.
func TestBetween(t *testing.T) {
	n := uint64(5)
	draw := func(below int) int {
		n = n*6364136223846793005 + 1442695040888963407
		return int(n >> 33 % uint64(below))
	}
	made := 0
	for range 4000 {
		w := world(t)
		for c := range 6 {
			place(t, w, c, api.Hot+draw(2), order(draw(2), 8+draw(4), 1+draw(2)), 2+draw(5))
		}
		var tries []*pair.Pair
		var aims []pair.Aim
		for way := range 6 {
			a := pair.Aim{Way: 1 + way%3, X: draw(6), Gen: 1, Y: draw(6)}
			aims = append(aims, a)
			tries = append(tries, pair.Begin(a))
		}
		for range 6 * 60 {
			if draw(40) == 0 {
				c := draw(6)
				word, s := w.State(c)
				if next, err := cell.Cancel(s); err == nil && !s.Flag && w.Turn(c, word, next) {
					kind := trace.Cancel
					if next.Flag {
						kind = trace.Ask
					}
					w.Tell(trace.Event{Kind: kind, Cell: c, Gen: 1})
				}
			}
			i := draw(6)
			was, had := w.M.Steps(), tries[i].Done()
			tries[i].Step(w)
			if w.M.Steps()-was > 1 || had && w.M.Steps() != was {
				t.Fatal("steps", aims[i])
			}
		}
		m, err := trace.Play(w.R, w.Log...)
		if err != nil {
			t.Fatal(aims, w.Log, err)
		}
		for _, p := range tries {
			if !p.Done() {
				t.Fatal("not done")
			}
			if p.Made() {
				made++
			}
		}
		for _, o := range m.Orders() {
			s := state(w, o.Cell)
			if cell.Held(s) || s.Left != o.Left || s.Fills != o.Fills || cell.Live(s) != (o.End == 0) || o.End != 0 && s.Kind != o.End {
				t.Fatal(o, s)
			}
			for f := range o.Fills {
				if slot(w, o.Cell, 1, f).Kind != record.Fill {
					t.Fatal("a fill that isn't in the journal")
				}
			}
			end := slot(w, o.Cell, 1, w.R.Fills)
			if want, over := record.End(s, end.Tick); over && o.End != api.Cancelled && end != want {
				t.Fatal("an end", end, want)
			}
		}
	}
	if made < 500 {
		t.Error("few were made", made)
	}
}
