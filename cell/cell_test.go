package cell_test

import (
	"errors"
	"math"
	"testing"

	"gloaming/api"
	"gloaming/cell"
	"gloaming/fault"
)

// P6.1
func TestWord(t *testing.T) {
	for kind := range 9 {
		for _, flag := range []bool{false, true} {
			s := api.State{Kind: kind, Flag: flag, Gen: 15 - kind, Left: 9999 - kind, Fills: kind}
			w, err := cell.Word(s)
			if err != nil || cell.State(w) != s {
				t.Error(s, err)
			}
		}
	}
	most := api.State{Kind: 8, Flag: true, Gen: 255, Left: 65535, Fills: 255}
	if w, err := cell.Word(most); err != nil || w != 8|1<<4|255<<5|65535<<13|255<<29 || cell.State(w) != most {
		t.Error(w, err)
	}
	wrong := []struct {
		s  api.State
		at int
	}{
		{api.State{Kind: 9}, 0}, {api.State{Kind: math.MaxInt, Gen: -1}, 0}, {api.State{Kind: -1}, 0},
		{api.State{Gen: -1}, 2}, {api.State{Gen: 256}, 2}, {api.State{Left: -1}, 3}, {api.State{Left: 65536}, 3}, {api.State{Fills: 256}, 4}, {api.State{Fills: -1}, 4},
	}
	for _, x := range wrong {
		w, err := cell.Word(x.s)
		if at, ok := fault.Place(err); w != 0 || !errors.Is(err, api.ErrRange) || !ok || at != x.at {
			t.Error(x, w, err)
		}
	}
}

// P6.1: what a state is, kind by kind; P6.3: what it is called.
func TestKinds(t *testing.T) {
	names := []string{"free", "live", "live", "live", "live", "filled", "cancelled", "expired", "retired"}
	for kind := -2; kind < 17; kind++ {
		s := api.State{Kind: kind, Flag: kind%2 == 0, Left: 1}
		loose := kind == 1 || kind == 2
		held := kind == 3 || kind == 4
		over := kind >= 5 && kind <= 8
		if cell.Loose(s) != loose || cell.Held(s) != held || cell.Live(s) != (loose || held) || cell.Over(s) != over {
			t.Error(kind)
		}
		want := "?"
		if kind >= 0 && kind < len(names) {
			want = names[kind]
		}
		if cell.Kind(s) != want {
			t.Error(kind, cell.Kind(s))
		}
	}
}

type turn func(api.State) (api.State, error)

type expected struct {
	name string
	do   turn
	s    api.State
	want api.State
	err  error
}

func look(t *testing.T, l []expected) {
	t.Helper()
	for i, x := range l {
		s, err := x.do(x.s)
		if s != x.want || x.err == nil && err != nil || x.err != nil && !errors.Is(err, x.err) {
			t.Errorf("%d %s %v: %v %v", i, x.name, x.s, s, err)
		}
	}
}

func take(qty, fills int) turn {
	return func(s api.State) (api.State, error) { return cell.Take(s, qty, fills) }
}

func release(qty, fills int) turn {
	return func(s api.State) (api.State, error) { return cell.Release(s, qty, fills) }
}

func begin(qty, gens int) turn {
	return func(s api.State) (api.State, error) { return cell.Begin(s, qty, gens) }
}

// P6.2: Hold, Take, Release
func TestFills(t *testing.T) {
	rest := api.State{Kind: api.Rest, Gen: 3, Left: 5}
	hot := api.State{Kind: api.Hot, Gen: 3, Left: 5, Fills: 1}
	held := api.State{Kind: api.RestHeld, Gen: 3, Left: 5}
	flagged := api.State{Kind: api.HotHeld, Flag: true, Gen: 3, Left: 5, Fills: 1}
	for kind := -1; kind < 10; kind++ {
		s := api.State{Kind: kind, Flag: true, Gen: 2, Left: 7, Fills: 1}
		want := s
		if kind == 1 || kind == 2 {
			want.Kind += 2
		}
		if cell.Hold(s) != want {
			t.Error(cell.Hold(s))
		}
	}
	look(t, []expected{
		{"take", take(5, 2), rest, api.State{Kind: api.Filled, Gen: 3, Fills: 1}, nil},
		{"take", take(2, 2), rest, api.State{Kind: api.Rest, Gen: 3, Left: 3, Fills: 1}, nil},
		{"take", take(2, 1), rest, api.State{Kind: api.Retired, Gen: 3, Left: 3, Fills: 1}, nil},
		{"take", take(5, 1), rest, api.State{Kind: api.Filled, Gen: 3, Fills: 1}, nil},
		{"take", take(1, 3), hot, api.State{Kind: api.Hot, Gen: 3, Left: 4, Fills: 2}, nil},
		{"take", take(2, 1), api.State{Kind: api.Rest, Flag: true, Left: 3}, api.State{Kind: api.Retired, Left: 1, Fills: 1}, nil},
		{"take", take(3, 4), api.State{Kind: api.Rest, Flag: true, Left: 3}, api.State{Kind: api.Filled, Fills: 1}, nil},
		{"take", take(1, 4), api.State{Kind: api.Rest, Flag: true, Left: 3}, api.State{Kind: api.Rest, Flag: true, Left: 2, Fills: 1}, nil},
		{"take", take(9, 0), held, api.State{}, api.ErrBusy},
		{"take", take(1, 4), api.State{Left: 3}, api.State{}, api.ErrBusy},
		{"take", take(0, 0), rest, api.State{}, api.ErrQty},
		{"take", take(6, 0), rest, api.State{}, api.ErrQty},
		{"take", take(math.MinInt, 4), rest, api.State{}, api.ErrQty},
		{"take", take(1, 1), hot, api.State{}, api.ErrLimit},
		{"take", take(1, 0), hot, api.State{}, api.ErrLimit},
		{"release", release(0, 2), held, rest, nil},
		{"release", release(5, 2), held, api.State{Kind: api.Filled, Gen: 3, Fills: 1}, nil},
		{"release", release(2, 2), held, api.State{Kind: api.Rest, Gen: 3, Left: 3, Fills: 1}, nil},
		{"release", release(2, 1), held, api.State{Kind: api.Retired, Gen: 3, Left: 3, Fills: 1}, nil},
		{"release", release(0, 2), flagged, api.State{Kind: api.Cancelled, Gen: 3, Left: 5, Fills: 1}, nil},
		{"release", release(1, 3), flagged, api.State{Kind: api.Cancelled, Gen: 3, Left: 4, Fills: 2}, nil},
		{"release", release(1, 2), flagged, api.State{Kind: api.Retired, Gen: 3, Left: 4, Fills: 2}, nil},
		{"release", release(5, 2), flagged, api.State{Kind: api.Filled, Gen: 3, Fills: 2}, nil},
		{"release", release(0, 2), api.State{Kind: api.HotHeld, Left: 5, Fills: 1}, api.State{Kind: api.Hot, Left: 5, Fills: 1}, nil},
		{"release", release(-9, 0), rest, api.State{}, api.ErrArg},
		{"release", release(-1, 0), held, api.State{}, api.ErrQty},
		{"release", release(6, 0), held, api.State{}, api.ErrQty},
		{"release", release(1, 1), flagged, api.State{}, api.ErrLimit},
	})
}

// P6.2: Cancel, Expire, Promote, Begin
func TestTurns(t *testing.T) {
	for kind := -1; kind < 11; kind++ {
		s := api.State{Kind: kind, Gen: 2, Left: 7, Fills: 1}
		cancelled, expired, rested := s, s, s
		cancelled.Kind, expired.Kind, rested.Kind = api.Cancelled, api.Expired, api.Rest
		flagged := s
		flagged.Flag = true
		switch kind {
		case api.Hot, api.Rest:
			flagged.Kind = api.Cancelled
			look(t, []expected{
				{"cancel", cell.Cancel, s, cancelled, nil},
				{"cancel", cell.Cancel, api.State{Kind: kind, Flag: true, Left: 1}, api.State{Kind: api.Cancelled, Flag: true, Left: 1}, nil},
				{"expire", cell.Expire, s, expired, nil},
				{"expire", cell.Expire, api.State{Kind: kind, Flag: true, Left: 1}, api.State{Kind: api.Expired, Flag: true, Left: 1}, nil},
			})
		case api.HotHeld, api.RestHeld:
			look(t, []expected{
				{"cancel", cell.Cancel, s, flagged, nil},
				{"cancel", cell.Cancel, flagged, flagged, nil},
				{"expire", cell.Expire, s, api.State{}, api.ErrBusy},
			})
		default:
			look(t, []expected{
				{"cancel", cell.Cancel, s, api.State{}, api.ErrGone},
				{"expire", cell.Expire, s, api.State{}, api.ErrBusy},
			})
		}
		if kind == api.Hot {
			look(t, []expected{{"promote", cell.Promote, s, rested, nil}})
		} else {
			look(t, []expected{{"promote", cell.Promote, s, api.State{}, api.ErrGone}})
		}
		if kind >= api.Hot && kind <= api.RestHeld {
			look(t, []expected{{"begin", begin(0, 0), s, api.State{}, api.ErrBusy}})
		} else {
			look(t, []expected{{"begin", begin(9, 3), s, api.State{Kind: api.Hot, Gen: 3, Left: 9}, nil}})
		}
	}
	look(t, []expected{
		{"begin", begin(1, 1), api.State{}, api.State{Kind: api.Hot, Gen: 1, Left: 1}, nil},
		{"begin", begin(api.MaxQty, 15), api.State{Kind: api.Cancelled, Flag: true, Gen: 14, Left: 3, Fills: 2}, api.State{Kind: api.Hot, Gen: 15, Left: api.MaxQty}, nil},
		{"begin", begin(0, 2), api.State{Gen: 2}, api.State{}, api.ErrFull},
		{"begin", begin(1, math.MinInt), api.State{Gen: 2}, api.State{}, api.ErrFull},
		{"begin", begin(1, math.MaxInt), api.State{Gen: math.MaxInt}, api.State{}, api.ErrFull},
		{"begin", begin(0, 3), api.State{Gen: 2}, api.State{}, api.ErrQty},
		{"begin", begin(api.MaxQty+1, 3), api.State{Gen: 2}, api.State{}, api.ErrQty},
	})
}

// P6.4: whatever is done to what is over, it stays over; less is left by just what was filled.
func TestStays(t *testing.T) {
	n := uint64(7)
	draw := func(below int) int {
		n = n*6364136223846793005 + 1442695040888963407
		return int(n >> 33 % uint64(below))
	}
	for range 300 {
		s := api.State{}
		filled := 0
		for range 60 {
			was := s
			qty := draw(4)
			var next api.State
			var err error
			kind := draw(7)
			switch kind {
			case 0:
				next, err = cell.Begin(s, 1+qty, 15)
			case 1:
				next, err = cell.Take(s, qty, 3)
			case 2:
				next, err = cell.Release(s, qty, 3)
			case 3:
				next, err = cell.Cancel(s)
			case 4:
				next, err = cell.Expire(s)
			case 5:
				next, err = cell.Promote(s)
			default:
				next = cell.Hold(s)
			}
			if err != nil {
				if next != (api.State{}) {
					t.Fatal("a state beside an error")
				}
				continue
			}
			s = next
			switch {
			case kind == 0:
				filled = 0
			case cell.Over(was) && s != was:
				t.Fatal("over no more", was, s)
			case (kind == 1 || kind == 2) && was.Left-s.Left != qty, kind > 2 && s.Left != was.Left:
				t.Fatal("left", was, s, qty)
			}
			if kind == 1 || kind == 2 && qty > 0 {
				filled++
			}
			if s.Fills != filled || cell.Live(s) && (s.Left == 0 || s.Fills >= 3) {
				t.Fatal("fills", s, filled)
			}
		}
	}
}
