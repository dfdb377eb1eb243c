package answer_test

import (
	"errors"
	"maps"
	"math"
	"testing"

	"gloaming/answer"
	"gloaming/api"
	"gloaming/fault"
	"gloaming/line"
	"gloaming/record"
	"gloaming/seat"
)

const above = line.MaxNum + 1

// P16.1: right replies, and their lines; P16.3.
func TestRight(t *testing.T) {
	for want, r := range map[string]seat.Reply{
		"9 cancel 7 0 asked":               {Kind: seat.Cancel, Tick: 9, ID: 7, Asked: true},
		"9 cancel 7 0 ok":                  {Kind: seat.Cancel, Tick: 9, ID: 7},
		"9 cancel 7 3 error 27":            {Kind: seat.Cancel, Tick: 9, ID: 7, Cell: 3, Code: api.ErrBusy},
		"0 submit 0 0 ok":                  {Kind: seat.Submit},
		"1000000 submit 9999999 4 error 1": {Kind: seat.Submit, Tick: api.MaxTick, ID: line.MaxNum, Cell: 4, Code: api.ErrArg},
		"5 poll 2 none":                    {Kind: seat.Poll, Tick: 5, Cell: 2},
		"5 poll 2 error 21":                {Kind: seat.Poll, Tick: 5, Cell: 2, Code: api.ErrCell},
		"5 poll 2 fill 3 9 4":              {Kind: seat.Poll, Tick: 5, Cell: 2, Record: api.Record{Kind: record.Fill, Qty: 3, Price: 9, Tick: 4}},
		"5 poll 2 retired 0 0 0":           {Kind: seat.Poll, Tick: 5, Cell: 2, Record: api.Record{Kind: record.Retired}},
		"5 view error 6":                   {Kind: seat.View, Tick: 5, Code: api.ErrForm},
		"5 view live 3 1 free 0 0":         {Kind: seat.View, Tick: 5, Looks: []seat.Look{{Kind: 1, Left: 3, Fills: 1}, {}}},
		"5 view filled 0 1 cancelled 2 0 expired 2 9 retired 1 9999999": {Kind: seat.View, Tick: 5, Looks: []seat.Look{{Kind: 5, Fills: 1}, {Kind: 6, Left: 2}, {Kind: 7, Left: 2, Fills: 9}, {Kind: 8, Left: 1, Fills: line.MaxNum}}},
	} {
		s, err := answer.Print(r)
		if !answer.Right(r) || s != want || err != nil {
			t.Errorf("%v: %q %v", r, s, err)
		}
		if back, err := answer.Parse(want); err != nil || !seat.Same(back, r) {
			t.Errorf("%q: %v %v", want, back, err)
		}
	}
	big := seat.Reply{Kind: seat.Submit, Code: math.MaxInt}
	s, err := answer.Print(big)
	if !answer.Right(big) || err != nil || s != "0 submit 0 0 error 9223372036854775807" {
		t.Error(s, err)
	}
	if back, err := answer.Parse(s); err == nil && !seat.Same(back, big) {
		t.Error(back)
	}
}

// P16.1: replies that may not be told.
func TestNotRight(t *testing.T) {
	fill := api.Record{Kind: record.Fill, Qty: 3, Price: 9, Tick: 4}
	record := func(f func(r *api.Record)) seat.Reply {
		r := fill
		f(&r)
		return seat.Reply{Kind: seat.Poll, Record: r}
	}
	look := func(kind, left, fills int) seat.Reply {
		return seat.Reply{Kind: seat.View, Looks: []seat.Look{{}, {Kind: kind, Left: left, Fills: fills}}}
	}
	for i, r := range []seat.Reply{
		{}, {Kind: 5}, {Kind: -1},
		{Kind: 1, Tick: -1}, {Kind: 1, Tick: api.MaxTick + 1},
		{Kind: 1, ID: -1}, {Kind: 1, ID: above}, {Kind: 2, Cell: -1}, {Kind: 2, Cell: above},
		{Kind: 3, ID: 1}, {Kind: 4, ID: 1}, {Kind: 4, Cell: 1},
		{Kind: 1, Code: -1}, {Kind: 1, Code: math.MinInt},
		{Kind: 1, Asked: true}, {Kind: 3, Asked: true}, {Kind: 2, Asked: true, Code: api.ErrBusy},
		{Kind: 1, Record: fill}, {Kind: 4, Record: fill}, {Kind: 3, Record: fill, Code: api.ErrCell},
		record(func(r *api.Record) { r.Kind = 0 }), record(func(r *api.Record) { r.Kind = 6 }), record(func(r *api.Record) { r.Kind = -1 }),
		record(func(r *api.Record) { r.Qty = -1 }), record(func(r *api.Record) { r.Price = above }), record(func(r *api.Record) { r.Tick = -1 }),
		record(func(r *api.Record) { r.Cell = 1 }), record(func(r *api.Record) { r.Gen = 1 }),
		{Kind: 3, Looks: []seat.Look{{}}}, {Kind: 4, Code: 1, Looks: []seat.Look{{}}},
		look(2, 0, 0), look(3, 0, 0), look(4, 0, 0), look(9, 0, 0), look(-1, 0, 0), look(1, -1, 0), look(1, above, 0), look(1, 0, -1), look(1, 0, above),
	} {
		s, err := answer.Print(r)
		if answer.Right(r) || s != "" || !errors.Is(err, api.ErrForm) {
			t.Error(i, r, s, err)
		}
	}
}

// P16.1: lines that are no right reply's.
func TestNoLine(t *testing.T) {
	for _, s := range []string{
		"", " ", "9", "9 ", "9 cancel", "9 cancel 7", "9 cancel 7 0", "9 cancel 7 0 ", "9 cancel 7 0 asked ", " 9 cancel 7 0 asked", "9 cancel 7 0 asked 1", "9  cancel 7 0 asked",
		"09 cancel 7 0 ok", "-9 cancel 7 0 ok", "1000001 cancel 7 0 ok", "9 cancel 07 0 ok", "9 cancel 7 x ok", "9 cancel 7 0 done", "9 cancel 7 0 error", "9 cancel 7 0 error 0", "9 cancel 7 0 error 05", "9 cancel 7 0 error x", "9 cancel 7 0 error -1", "9 cancel 7 0 error 5 5",
		"9 submit 1 0 asked", "9 submit 10000000 0 ok", "9 sumbit 1 0 ok", "9 ? 1 0 ok", "9 view asked", "9 view live", "9 view live 1", "9 view live 1 x", "9 view hot 1 0", "9 view ? 1 0", "9 view none 1 0", "9 view live 1 0 ", "9 view 1 0",
		"9 poll 2", "9 poll 2 ok", "9 poll 2 none 0 0 0", "9 poll 2 fill", "9 poll 2 fill 1 2", "9 poll 2 fill 1 2 3 4", "9 poll 2 live 1 2 3", "9 poll 1 2 none", "9 poll 2 fill 1 2 03",
		"9 cancel 7 0 asked\n", "٩ view",
	} {
		if r, err := answer.Parse(s); !errors.Is(err, api.ErrForm) || !seat.Same(r, seat.Reply{}) {
			t.Errorf("%q: %v %v", s, r, err)
		}
	}
}

// P16.2
func TestWrong(t *testing.T) {
	for want, x := range map[string]struct {
		tick int
		err  error
	}{
		"0 wrong 11 at 4":  {0, fault.At(4, api.ErrShort)},
		"7 wrong 13 at 0":  {7, api.ErrNum},
		"-7 wrong 0 at 0":  {-7, nil},
		"7 wrong -5 at -3": {7, fault.At(-3, fault.With("x", api.Code(-5)))},
		"8 wrong 0 at 2":   {8, fault.At(2, errors.New("x"))},
		"-9223372036854775808 wrong 1 at 9223372036854775807": {math.MinInt, fault.At(math.MaxInt, api.ErrArg)},
	} {
		if s := answer.Wrong(x.tick, x.err); s != want {
			t.Errorf("%q, not %q", s, want)
		}
	}
	want := map[string]api.Code{"other": 1, "word": 10, "short": 11, "more": 12, "num": 13, "long": 14, "byte": 15, "ident": 20, "cell": 21, "name": 22, "qty": 23, "price": 24, "least": 25, "late": 26, "busy": 27, "full": 28, "gone": 29}
	if !maps.Equal(answer.Codes(), want) {
		t.Error(answer.Codes())
	}
	answer.Codes()["x"] = 3
	if !maps.Equal(answer.Codes(), want) {
		t.Error("what was handed out is kept")
	}
}

// P16.3: of replies of all kinds.
func TestBack(t *testing.T) {
	n := uint64(6)
	draw := func(below int) int {
		n = n*6364136223846793005 + 1442695040888963407
		return int(n >> 33 % uint64(below))
	}
	right := 0
	for range 30000 {
		r := seat.Reply{Kind: 1 + draw(4), Tick: draw(1000001), ID: draw(2) * draw(99), Cell: draw(2) * draw(9), Asked: draw(4) == 0, Code: api.Code(draw(2) * draw(30))}
		if draw(2) == 0 {
			r.Record = api.Record{Kind: draw(6), Qty: draw(9), Price: draw(9), Tick: draw(9)}
		}
		for range draw(3) {
			r.Looks = append(r.Looks, seat.Look{Kind: draw(9), Left: draw(99), Fills: draw(5)})
		}
		s, err := answer.Print(r)
		if answer.Right(r) != (err == nil) {
			t.Fatal(r, err)
		}
		if err != nil {
			continue
		}
		right++
		if back, err := answer.Parse(s); err != nil || !seat.Same(back, r) {
			t.Fatal(s, back, err)
		}
	}
	if right < 500 {
		t.Error("few were right", right)
	}
}
