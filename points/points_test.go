package points_test

import (
	"errors"
	"slices"
	"testing"

	"gloaming/api"
	"gloaming/plan"
	"gloaming/points"
	"gloaming/pool"
	"gloaming/rules"
	"gloaming/seat"
	"gloaming/trace"
)

var small = api.Config{Parts: 2, Cells: 1, Names: 1, Bands: 1, Probes: 0, Fills: 2, Gens: 3}

func line(who int, a seat.Ask) pool.Event { return pool.Event{Kind: pool.Line, Who: who, Ask: a} }

func submit(id, side, price, qty int) seat.Ask {
	return seat.Ask{Kind: seat.Submit, ID: id, Terms: api.Terms{Side: side, Price: price, Least: 1, Until: 90}, Qty: qty}
}

var view = seat.Ask{Kind: seat.View}

func run(t *testing.T, c api.Config, l ...pool.Event) *points.Run {
	t.Helper()
	r, err := points.New(c, l...)
	if err != nil {
		t.Fatal(err)
	}
	return r
}

func same(a, b points.Span) bool {
	by := slices.Equal(a.By, b.By)
	return by && a.Line == b.Line && a.Part == b.Part && a.From == b.From && a.To == b.To && a.Steps == b.Steps && a.Done == b.Done
}

// P24.1: points and spans.
func TestRun(t *testing.T) {
	buy, sell := submit(1, api.Buy, 10, 5), submit(1, api.Sell, 8, 3)
	r, err := rules.New(small)
	if err != nil {
		t.Fatal(err)
	}
	n := seat.Steps(r, buy)
	l := slices.Concat(
		[]pool.Event{{Kind: pool.Tick, N: 2}, line(0, buy), line(0, view), line(7, view)}, plan.Burst(0, n+1),
		[]pool.Event{line(1, sell), line(1, view)}, plan.Burst(1, 18), plan.Burst(2, 9), plan.Burst(1, n-19),
	)
	got := run(t, small, l...)
	var kinds []int
	for _, p := range got.Points() {
		kinds = append(kinds, p.What.Kind)
	}
	from := 4 + n + 1 + 2
	p := got.Points()
	if !slices.Equal(kinds, []int{trace.Submit, trace.Rest, trace.Submit, trace.Fill, trace.Over}) || p[0].Event != 7 || p[0].Agent != 0 || p[3].Event != from+4+5 || p[3].Agent != 1 || p[3].What.Qty != 3 || p[3].What.Tick != 2 {
		t.Error(p)
	}
	want := []points.Span{
		{Line: 1, Part: 0, From: 4, To: 4 + n - 1, Steps: n, Done: true, By: []int{0, 1}},
		{Line: 2, Part: 0, From: 4 + n, To: 4 + n, Steps: 1},
		{Line: from - 2, Part: 1, From: from, To: len(l) - 1, Steps: n - 1, By: []int{2, 3, 4}},
		{Line: from - 1, Part: 1, From: -1, To: -1},
	}
	if s := got.Spans(); !slices.EqualFunc(s, want, same) {
		t.Error(s)
	}
	got.Spans()[0].By[0] = 9
	got.Points()[0].Event = 9
	if !slices.EqualFunc(got.Spans(), want, same) || !slices.Equal(got.Points(), p) {
		t.Error("what was handed out is kept")
	}
	if o := got.Overlap(); len(o) != 0 {
		t.Error(o)
	}
}

// P24.1: a sweeper's points belong to nobody's span.
func TestSweeper(t *testing.T) {
	c := small
	l := slices.Concat([]pool.Event{line(0, submit(1, api.Buy, 10, 5)), line(1, submit(1, api.Sell, 8, 3))}, plan.Mix(plan.Burst(0, 80), plan.Burst(1, 80)), plan.Burst(2, 56))
	r := run(t, c, l...)
	fills := 0
	for i, p := range r.Points() {
		if p.What.Kind != trace.Fill {
			continue
		}
		fills++
		for _, s := range r.Spans() {
			if p.Agent != s.Part && slices.Contains(s.By, i) {
				t.Error(s)
			}
		}
	}
	if fills != 1 {
		t.Error(fills)
	}
}

// P24.1: Overlap
func TestOverlap(t *testing.T) {
	l := slices.Concat(
		[]pool.Event{line(0, view), line(1, view), line(0, view), line(1, view)},
		plan.Burst(0, 1), plan.Burst(1, 3), plan.Burst(0, 2), plan.Burst(0, 1), plan.Burst(1, 1), plan.Burst(0, 2), plan.Burst(1, 0),
	)
	// the first of 0 and the first of 1, while that goes on; the second of 0 and the second of 1, none of which is answered
	if o := run(t, small, l...).Overlap(); !slices.Equal(o, [][2]int{{0, 1}, {2, 3}}) {
		t.Error(o)
	}
	var none *points.Run
	if len(none.Points()) != 0 || len(none.Spans()) != 0 || len(none.Overlap()) != 0 {
		t.Error("of nil")
	}
	if r, err := points.New(api.Config{}); r != nil || !errors.Is(err, api.ErrRange) {
		t.Error(err)
	}
}

// P24.2
func TestBound(t *testing.T) {
	r, err := rules.New(small)
	if err != nil {
		t.Fatal(err)
	}
	for window, want := range map[int]int{5: 15, 1: 3, 0: 3, -9: 3, 1 << 30: 3 << 30} {
		if n := points.Bound(r, view, window); n != want {
			t.Error(window, n)
		}
	}
	if n := points.Bound(r, submit(1, 0, 5, 1), 2); n != 2*seat.Steps(r, submit(1, 0, 5, 1)) {
		t.Error(n)
	}
	if l, err := points.Late(api.Config{Parts: 9}, 3); len(l) != 0 || !errors.Is(err, api.ErrRange) {
		t.Error(err)
	}
}

// P24.2, P24.3: nothing is late; what is asked happens between its first step and its last one.
func TestPoints(t *testing.T) {
	n := uint64(41)
	draw := func(below int) int {
		n = n*6364136223846793005 + 1442695040888963407
		return int(n >> 33 % uint64(below))
	}
	c := api.Config{Parts: 3, Cells: 2, Names: 1, Bands: 1, Probes: 1, Fills: 2, Gens: 9}
	answered := 0
	for range 60 {
		var l []pool.Event
		ids := [3]int{}
		for len(l) < 3000 {
			who := draw(3)
			switch draw(12) {
			case 0:
				ids[who]++
				a := submit(ids[who], draw(2), 4996+draw(8), 1+draw(8))
				a.Cell = draw(2)
				l = append(l, line(who, []seat.Ask{a, a, a, {Kind: seat.Cancel, ID: ids[who] - 1, Cell: draw(2)}, {Kind: seat.Poll}, view}[draw(6)]))
			case 1:
				l = append(l, pool.Event{Kind: pool.Tick, N: 1})
			default:
				l = append(l, plan.Mix(plan.Burst(who, draw(40)), plan.Burst(draw(5), draw(40)), plan.Burst(draw(5), draw(40)))...)
			}
		}
		for _, window := range []int{-1, 0, 1, 2, 3, 5, 9, 50, 500, 5000, 1 << 30} {
			if late, err := points.Late(c, window, l...); err != nil || len(late) != 0 {
				t.Fatal(window, late, err)
			}
		}
		r := run(t, c, l...)
		p, err := pool.New(c)
		if err != nil {
			t.Fatal(err)
		}
		p.Run(l...)
		codes := map[int]api.Code{}
		for _, o := range p.Outs() {
			codes[o.Event] = o.Reply.Code
		}
		var log []trace.Event
		for _, x := range r.Points() {
			log = append(log, x.What)
		}
		if !slices.Equal(log, p.Events()) {
			t.Fatal("points of another log")
		}
		for _, s := range r.Spans() {
			submits := 0
			for _, i := range s.By {
				x := r.Points()[i]
				if x.Event < s.From || x.Event > s.To || x.Agent != s.Part {
					t.Fatal(s, x)
				}
				if x.What.Kind == trace.Submit {
					submits++
				}
			}
			if s.Done && codes[s.Line] == 0 {
				answered++
				if want := seat.Steps(p.R, l[s.Line].Ask); s.Steps != want || l[s.Line].Ask.Kind == seat.Submit && submits != 1 {
					t.Fatal(s, want)
				}
			}
		}
	}
	if answered < 200 {
		t.Error("few were answered", answered)
	}
}
