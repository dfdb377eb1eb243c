package seat_test

import (
	"math"
	"slices"
	"testing"

	"gloaming/api"
	"gloaming/cell"
	"gloaming/mem"
	"gloaming/pair"
	"gloaming/record"
	"gloaming/rules"
	"gloaming/seat"
	"gloaming/terms"
	"gloaming/trace"
)

var config = api.Config{Parts: 2, Cells: 2, Names: 2, Bands: 3, Probes: 2, Fills: 2, Gens: 3}

func world(t *testing.T, c api.Config) *pair.World {
	t.Helper()
	r, err := rules.New(c)
	if err != nil {
		t.Fatal(err)
	}
	w, err := pair.New(r)
	if err != nil {
		t.Fatal(err)
	}
	return w
}

func order(side, price int) api.Terms {
	return api.Terms{Name: 1, Side: side, Price: price, Least: 1, Until: 50}
}

func submit(id, cell int, x api.Terms, qty int) seat.Ask {
	return seat.Ask{Kind: seat.Submit, ID: id, Cell: cell, Terms: x, Qty: qty}
}

func state(w *pair.World, c int) api.State { return cell.State(w.M.Words()[w.R.StateAt(c)]) }

// run takes steps till it is answered: the reply, and which steps touched a word.
func run(t *testing.T, w *pair.World, s *seat.Seat, p *seat.Program) (seat.Reply, int, []int) {
	t.Helper()
	var touched []int
	for i := range 5000 {
		was := w.M.Steps()
		r, done := p.Step(w, s)
		switch w.M.Steps() - was {
		case 0:
		case 1:
			touched = append(touched, i)
		default:
			t.Fatal("more than one word in a step")
		}
		if done {
			return r, i + 1, touched
		}
		if !seat.Same(r, seat.Reply{}) {
			t.Fatal("a reply ahead of the answer")
		}
	}
	t.Fatal("no answer")
	return seat.Reply{}, 0, nil
}

func ask(t *testing.T, w *pair.World, s *seat.Seat, a seat.Ask) seat.Reply {
	t.Helper()
	r, n, _ := run(t, w, s, seat.Start(a, tape()))
	if r.Code == 0 && n != seat.Steps(w.R, a) {
		t.Error("steps", n, seat.Steps(w.R, a))
	}
	return r
}

// tape draws the numbers that it is given.
func tape(l ...int) func() (int, bool) {
	return func() (int, bool) {
		if len(l) == 0 {
			return 0, false
		}
		n := l[0]
		l = l[1:]
		return n, true
	}
}

// P11.1: a new seat.
func TestNew(t *testing.T) {
	w := world(t, config)
	s := seat.New(w.R, 1)
	if s.Part != 1 || s.Last != 0 || !slices.Equal(s.IDs, []int{0, 0}) || !slices.Equal(s.Gens, []int{0, 0}) || !slices.Equal(s.Cursors, []record.Cursor{record.First(), record.First()}) {
		t.Error(s)
	}
}

// P11.2: Aims, Steps
func TestAims(t *testing.T) {
	w := world(t, config)
	l := seat.Aims(w.R, 3, 2, order(api.Buy, 5000))
	var want []pair.Aim
	for range 2 {
		want = append(want, pair.Aim{Way: pair.Arena, X: 3, Gen: 2, Y: -1})
	}
	for _, shard := range []int{3, 4} {
		for y := range 4 {
			want = append(want, pair.Aim{Way: pair.Scan, X: 3, Gen: 2, Y: y, Shard: shard})
		}
	}
	if !slices.Equal(l, want) {
		t.Error(l)
	}
	if l := seat.Aims(w.R, 3, 2, order(api.Sell, 5000)); len(l) != 10 || l[2].Shard != 5 || l[6].Shard != 4 {
		t.Error(l)
	}
	none := order(api.Buy, 5000)
	none.Name = 7
	tests := []struct {
		a    seat.Ask
		want int
	}{
		{submit(1, 0, order(api.Buy, 5000), 1), 4 + 14*10 + 6 + 1},
		{submit(-1, 9, none, 0), 4 + 14*10 + 6 + 1},
		{submit(1, 0, order(api.Sell, 1), 1), 4 + 14*14 + 6 + 1},
		{submit(1, 0, order(2, 5000), 1), 4 + 14*2 + 6 + 1},
		{submit(1, 0, order(api.Buy, 0), 1), 4 + 14*2 + 6 + 1},
		{seat.Ask{Kind: seat.Cancel, Cell: 9}, 9},
		{seat.Ask{Kind: seat.Poll}, 4},
		{seat.Ask{Kind: seat.View}, 4},
		{seat.Ask{Kind: 5}, 1},
		{seat.Ask{}, 1},
	}
	for i, x := range tests {
		if n := seat.Steps(w.R, x.a); n != x.want {
			t.Error(i, n)
		}
	}
}

// P11.3: an order with nobody about: which steps touch a word, and what they do.
func TestSubmit(t *testing.T) {
	w := world(t, config)
	s := seat.New(w.R, 1)
	w.C.Go(3)
	a := submit(7, 1, order(api.Buy, 10), 5)
	p := seat.Start(a, tape(-1, 9))
	for range 4 {
		if _, done := p.Step(w, s); done {
			t.Fatal("answered")
		}
	}
	if w.M.Last() != (mem.Step{Kind: mem.Store, At: w.R.StateAt(3), Now: 1 | 1<<5 | 5<<13, Done: true}) || w.M.Steps() != 3 {
		t.Error(w.M.Last())
	}
	if state(w, 3) != (api.State{Kind: api.Hot, Gen: 1, Left: 5}) || terms.Of(w.M.Words()[w.R.TermsAt(3)]) != a.Terms {
		t.Error(state(w, 3))
	}
	if s.Last != 7 || !slices.Equal(s.IDs, []int{0, 7}) || !slices.Equal(s.Gens, []int{0, 1}) {
		t.Error(s)
	}
	if !slices.Equal(w.Log, []trace.Event{{Kind: trace.Submit, Cell: 3, Gen: 1, Terms: a.Terms, Qty: 5, Tick: 3}}) {
		t.Error(w.Log)
	}
	w.C.Go(1)
	r, n, touched := run(t, w, s, p)
	if n != seat.Steps(w.R, a)-4 || !seat.Same(r, seat.Reply{Kind: seat.Submit, Tick: 4, ID: 7, Cell: 1}) {
		t.Error(n, r)
	}
	// two probes of nobody; a band of four cells, of which the last two are its own; then it rests at once
	want := []int{28, 29, 30, 31, 32, 34, 35, 42, 43, 44, 45, 46, 48, 49, 84, 85}
	if !slices.Equal(touched, want) {
		t.Error(touched)
	}
	if state(w, 3).Kind != api.Rest || w.Log[1] != (trace.Event{Kind: trace.Rest, Cell: 3, Gen: 1, Tick: 4}) || len(w.Log) != 2 {
		t.Error(state(w, 3), w.Log)
	}
}

// P11.3: why an order is refused, the first reason first, and by how many steps.
func TestRefused(t *testing.T) {
	w := world(t, config)
	s := seat.New(w.R, 0)
	w.C.Go(8)
	if r := ask(t, w, s, submit(5, 0, order(api.Buy, 10), 5)); r.Code != 0 {
		t.Fatal(r)
	}
	bad := api.Terms{Name: 9, Side: 9}
	late := order(api.Buy, 10)
	late.Until = 8
	tests := []struct {
		a     seat.Ask
		want  api.Code
		steps int
	}{
		{submit(5, 9, bad, 0), api.ErrIdent, 1},
		{submit(0, 9, bad, 0), api.ErrIdent, 1},
		{submit(math.MinInt, 9, bad, 0), api.ErrIdent, 1},
		{submit(api.MaxID+1, 9, bad, 0), api.ErrIdent, 1},
		{submit(6, 2, bad, 0), api.ErrCell, 1},
		{submit(6, -1, bad, 0), api.ErrCell, 1},
		{submit(6, 0, bad, 0), api.ErrName, 1},
		{submit(6, 0, order(7, 0), 0), api.ErrArg, 1},
		{submit(6, 0, late, 5), api.ErrLate, 1},
		{submit(6, 0, order(api.Buy, 10), 5), api.ErrBusy, 2},
	}
	log, words := len(w.Log), w.M.Words()
	for i, x := range tests {
		r, n, _ := run(t, w, s, seat.Start(x.a, tape()))
		if n != x.steps || !seat.Same(r, seat.Reply{Kind: seat.Submit, Code: x.want, Tick: 8, ID: x.a.ID, Cell: x.a.Cell}) {
			t.Error(i, n, r)
		}
	}
	if s.Last != 5 || len(w.Log) != log || !slices.Equal(words, w.M.Words()) {
		t.Error("something happened")
	}
	if r := ask(t, w, s, submit(api.MaxID, 1, order(api.Buy, 10), 5)); r.Code != 0 {
		t.Error("the greatest number", r)
	}
	for _, kind := range []int{0, 5, -1} {
		r, n, touched := run(t, w, s, seat.Start(seat.Ask{Kind: kind}, tape()))
		if n != 1 || len(touched) != 0 || !seat.Same(r, seat.Reply{Kind: kind, Code: api.ErrForm, Tick: 8}) {
			t.Error(kind, r, n)
		}
	}
}

// P11.3: a cell's gens come to their end.
func TestFull(t *testing.T) {
	w := world(t, config)
	s := seat.New(w.R, 0)
	for id := 1; id <= 4; id++ {
		r := ask(t, w, s, submit(id, 0, order(api.Buy, 10), 5))
		if id == 4 {
			if r.Code != api.ErrFull {
				t.Error(r)
			}
			break
		}
		if r.Code != 0 || s.Gens[0] != id {
			t.Error(r, s.Gens)
		}
		if r := ask(t, w, s, seat.Ask{Kind: seat.Cancel, ID: id, Cell: 0}); r.Code != 0 {
			t.Error(r)
		}
	}
}

// P11.3: probes draw others; scans find who rests.
func TestMeet(t *testing.T) {
	w := world(t, config)
	one, two := seat.New(w.R, 0), seat.New(w.R, 1)
	first := seat.Start(submit(1, 0, order(api.Buy, 10), 5), tape(2, 3))
	for range 4 {
		first.Step(w, one)
	}
	if r, _, _ := run(t, w, two, seat.Start(submit(1, 1, order(api.Sell, 8), 2), tape(9, 0))); r.Code != 0 || state(w, 3).Kind != api.Filled || state(w, 0).Left != 3 {
		t.Error("a probe", r, state(w, 3), state(w, 0))
	}
	if r, _, _ := run(t, w, one, first); r.Code != 0 || state(w, 0) != (api.State{Kind: api.Rest, Gen: 1, Left: 3, Fills: 1}) {
		t.Error(r, state(w, 0))
	}
	if r := ask(t, w, two, submit(2, 0, order(api.Sell, 9), 9)); r.Code != 0 || state(w, 0).Kind != api.Filled || state(w, 2) != (api.State{Kind: api.Rest, Gen: 1, Left: 6, Fills: 1}) {
		t.Error("a scan", r, state(w, 0), state(w, 2))
	}
	if _, err := trace.Play(w.R, w.Log...); err != nil {
		t.Error(err)
	}
	w.C.Go(2)
	for i, want := range []api.Record{{Kind: record.Fill, Qty: 2, Price: 9}, {Kind: record.Fill, Qty: 3, Price: 9}, {Kind: record.Filled, Price: 2}, {}} {
		if r := ask(t, w, one, seat.Ask{Kind: seat.Poll, Cell: 0}); !seat.Same(r, seat.Reply{Kind: seat.Poll, Tick: 2, Record: want}) {
			t.Error(i, r)
		}
	}
	if one.Cursors[0] != (record.Cursor{Gen: 2}) || one.Cursors[1] != record.First() {
		t.Error(one.Cursors)
	}
}

// P11.3: an order is filled while it is about to rest: the step that failed is taken again; one that is over doesn't rest.
func TestRest(t *testing.T) {
	for _, x := range []struct{ qty, rests int }{{1, 1}, {5, 0}} {
		w := world(t, config)
		s := seat.New(w.R, 0)
		a := submit(1, 0, order(api.Buy, 10), 5)
		p := seat.Start(a, tape())
		ahead := seat.Steps(w.R, a) - 7
		for range ahead + 1 {
			p.Step(w, s)
		}
		word, st := w.State(0)
		st, err := cell.Take(st, x.qty, 2)
		if err != nil || !w.Turn(0, word, st) {
			t.Fatal(err)
		}
		r, n, touched := run(t, w, s, p)
		want := [][]int{{0, 1}, {0, 1, 2}}[x.rests]
		if n != 6 || r.Code != 0 || !slices.Equal(touched, want) {
			t.Error(n, r, touched)
		}
		rested := 0
		for _, e := range w.Log {
			if e.Kind == trace.Rest {
				rested++
			}
		}
		if rested != x.rests {
			t.Error(w.Log)
		}
	}
}

// P11.3: a Cancel: done, asked, gone, busy.
func TestCancel(t *testing.T) {
	w := world(t, config)
	s := seat.New(w.R, 0)
	ask(t, w, s, submit(4, 0, order(api.Buy, 10), 5))
	cancel := func(id, cell int) seat.Ask { return seat.Ask{Kind: seat.Cancel, ID: id, Cell: cell} }
	w.C.Go(6)
	for _, c := range []int{2, -1} {
		r, n, touched := run(t, w, s, seat.Start(cancel(4, c), tape()))
		if n != 1 || len(touched) != 0 || !seat.Same(r, seat.Reply{Kind: seat.Cancel, Code: api.ErrCell, Tick: 6, ID: 4, Cell: c}) {
			t.Error(r)
		}
	}
	for _, x := range [][2]int{{5, 0}, {3, 0}, {4, 1}, {0, 1}} {
		r, n, touched := run(t, w, s, seat.Start(cancel(x[0], x[1]), tape()))
		if n != 9 || !slices.Equal(touched, []int{1}) || !seat.Same(r, seat.Reply{Kind: seat.Cancel, Code: api.ErrGone, Tick: 6, ID: x[0], Cell: x[1]}) {
			t.Error(x, r, touched)
		}
	}
	word, st := w.State(0)
	w.Turn(0, word, cell.Hold(st)) // somebody holds it
	r, n, touched := run(t, w, s, seat.Start(cancel(4, 0), tape()))
	if n != 9 || !slices.Equal(touched, []int{1, 2}) || !seat.Same(r, seat.Reply{Kind: seat.Cancel, Tick: 6, ID: 4, Asked: true}) || !state(w, 0).Flag {
		t.Error(r, touched)
	}
	if e := w.Log[len(w.Log)-1]; e != (trace.Event{Kind: trace.Ask, Cell: 0, Gen: 1, Tick: 6}) {
		t.Error(e)
	}
	log := len(w.Log)
	r, _, touched = run(t, w, s, seat.Start(cancel(4, 0), tape()))
	if !slices.Equal(touched, []int{1}) || !r.Asked || r.Code != 0 || len(w.Log) != log {
		t.Error("asked already", r, touched)
	}
	word, _ = w.State(0)
	w.Turn(0, word, st) // it is let go, but nobody saw to its end
	p := seat.Start(cancel(4, 0), tape())
	for range 3 {
		p.Step(w, s)
	}
	w.C.Go(2)
	r, n, touched = run(t, w, s, p)
	if n != 6 || !slices.Equal(touched, []int{4}) || !seat.Same(r, seat.Reply{Kind: seat.Cancel, Tick: 8, ID: 4}) {
		t.Error(r, touched)
	}
	if e := w.Log[len(w.Log)-1]; e != (trace.Event{Kind: trace.Cancel, Cell: 0, Gen: 1, Tick: 6}) {
		t.Error(e)
	}
	if end := record.Of(w.M.Words()[w.R.SlotAt(0, 1, 2)]); end != (api.Record{Kind: record.Cancelled, Qty: 5, Tick: 6}) || state(w, 0).Kind != api.Cancelled {
		t.Error(end)
	}
	if r := ask(t, w, s, cancel(4, 0)); r.Code != api.ErrGone {
		t.Error(r)
	}
}

// P11.3: a Cancel that is always too late, three times, is busy.
func TestBusy(t *testing.T) {
	w := world(t, config)
	s := seat.New(w.R, 0)
	ask(t, w, s, submit(4, 0, order(api.Buy, 10), 9))
	p := seat.Start(seat.Ask{Kind: seat.Cancel, ID: 4}, tape())
	for i := range 8 {
		if i == 2 || i == 4 || i == 6 { // between the load and the swap
			word, st := w.State(0)
			st.Left--
			w.Turn(0, word, st)
		}
		if _, done := p.Step(w, s); done {
			t.Fatal("answered")
		}
	}
	if r, done := p.Step(w, s); !done || !seat.Same(r, seat.Reply{Kind: seat.Cancel, Code: api.ErrBusy, ID: 4}) || state(w, 0).Kind != api.Rest {
		t.Error(r, done)
	}
}

// P11.3: Poll, and View.
func TestPollView(t *testing.T) {
	w := world(t, config)
	s := seat.New(w.R, 1)
	for _, c := range []int{-1, 2} {
		if r, n, _ := run(t, w, s, seat.Start(seat.Ask{Kind: seat.Poll, Cell: c}, tape())); n != 1 || r.Code != api.ErrCell {
			t.Error(r)
		}
	}
	if _, n, touched := run(t, w, s, seat.Start(seat.Ask{Kind: seat.Poll}, tape())); n != 4 || !slices.Equal(touched, []int{1, 2}) {
		t.Error(touched)
	}
	s.Cursors[0] = record.Cursor{Gen: 1, N: 2} // all fills were read
	if _, _, touched := run(t, w, s, seat.Start(seat.Ask{Kind: seat.Poll}, tape())); !slices.Equal(touched, []int{2}) {
		t.Error(touched)
	}
	s.Cursors[0] = record.Cursor{Gen: 4} // there is no such gen
	if r, n, touched := run(t, w, s, seat.Start(seat.Ask{Kind: seat.Poll}, tape())); n != 4 || len(touched) != 0 || r.Code != 0 || r.Record != (api.Record{}) {
		t.Error(touched)
	}
	w.Turn(3, 0, api.State{Kind: api.RestHeld, Gen: 1, Left: 4, Fills: 1})
	r, n, touched := run(t, w, s, seat.Start(seat.Ask{Kind: seat.View}, tape()))
	if n != 4 || !slices.Equal(touched, []int{1, 2}) || !seat.Same(r, seat.Reply{Kind: seat.View, Looks: []seat.Look{{}, {Kind: 1, Left: 4, Fills: 1}}}) {
		t.Error(r, touched)
	}
	for kind := range 9 {
		word, _ := w.State(2)
		w.Turn(2, word, api.State{Kind: kind, Gen: 1, Left: 4})
		want := kind
		if kind >= 1 && kind <= 4 {
			want = 1
		}
		if r := ask(t, w, s, seat.Ask{Kind: seat.View}); r.Looks[0].Kind != want {
			t.Error(kind, r)
		}
	}
}

// P11.2: Same
func TestSame(t *testing.T) {
	a := seat.Reply{Kind: 1, Code: 2, Tick: 3, ID: 4, Cell: 5, Asked: true, Record: api.Record{Gen: 1}, Looks: []seat.Look{{Kind: 1}}}
	others := []seat.Reply{a, a, a, a, a, a, a, a, a}
	others[0].Kind = 0
	others[1].Code = 0
	others[2].Tick = 0
	others[3].ID = 0
	others[4].Cell = 0
	others[5].Asked = false
	others[6].Record.Gen = 0
	others[7].Looks = nil
	others[8].Looks = []seat.Look{{Kind: 1, Left: 1}}
	b := a
	b.Looks = slices.Clone(a.Looks)
	if !seat.Same(a, b) || !seat.Same(seat.Reply{}, seat.Reply{Looks: []seat.Look{}}) {
		t.Error("not the same")
	}
	for i, o := range others {
		if seat.Same(a, o) || seat.Same(o, a) {
			t.Error(i)
		}
	}
}
