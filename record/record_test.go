package record_test

import (
	"errors"
	"math"
	"testing"

	"gloaming/api"
	"gloaming/fault"
	"gloaming/record"
)

// P8.1: Word, Of
func TestWord(t *testing.T) {
	most := api.Record{Kind: 5, Qty: 65535, Price: 65535, Tick: 1<<20 - 1, Cell: 31, Gen: 15}
	for _, r := range []api.Record{{}, {Kind: record.Fill, Qty: 9998, Price: 9997, Tick: api.MaxTick, Cell: 23, Gen: 14}, most} {
		w, err := record.Word(r)
		if err != nil || record.Of(w) != r {
			t.Error(r, w, err)
		}
	}
	if w, err := record.Word(api.Record{Kind: 1, Qty: 1, Price: 1, Tick: 1, Cell: 1, Gen: 1}); err != nil || w != 1|1<<3|1<<19|1<<35|1<<55|1<<60 {
		t.Error(w, err)
	}
	wrong := []struct {
		r  api.Record
		at int
	}{
		{api.Record{Kind: 6}, 0}, {api.Record{Kind: 8, Gen: -1}, 0}, {api.Record{Kind: -1}, 0}, {api.Record{Qty: -1}, 1}, {api.Record{Qty: 65536}, 1},
		{api.Record{Price: 65536}, 2}, {api.Record{Tick: 1 << 20}, 3}, {api.Record{Cell: 32}, 4}, {api.Record{Cell: -1}, 4}, {api.Record{Gen: 16}, 5},
	}
	for _, x := range wrong {
		w, err := record.Word(x.r)
		if at, ok := fault.Place(err); w != 0 || !errors.Is(err, api.ErrRange) || !ok || at != x.at {
			t.Error(x, w, err)
		}
	}
}

// P8.1: End, IsEnd, Name
func TestEnd(t *testing.T) {
	if r, ok := record.End(api.State{Kind: api.Cancelled, Left: 3, Fills: 1, Gen: 4, Flag: true}, 9); !ok || r != (api.Record{Kind: record.Cancelled, Qty: 3, Price: 1, Tick: 9}) {
		t.Error(r, ok)
	}
	kinds := map[int]int{api.Filled: record.Filled, api.Cancelled: record.Cancelled, api.Expired: record.Expired, api.Retired: record.Retired}
	for kind := -1; kind < 12; kind++ {
		r, ok := record.End(api.State{Kind: kind, Left: 2}, 7)
		want, over := kinds[kind]
		if ok != over || r.Kind != want || !over && r != (api.Record{}) {
			t.Error(kind, r, ok)
		}
	}
	names := map[int]string{0: "none", 1: "fill", 2: "filled", 3: "cancelled", 4: "expired", 5: "retired"}
	for kind := -2; kind < 9; kind++ {
		want := names[kind]
		if want == "" {
			want = "none"
		}
		if record.Name(kind) != want || record.IsEnd(api.Record{Kind: kind}) != (kind >= 2 && kind <= 5) {
			t.Error(kind, record.Name(kind))
		}
	}
}

// P8.2
func TestNext(t *testing.T) {
	fill := api.Record{Kind: record.Fill, Qty: 3, Price: 9, Tick: 4, Cell: 2, Gen: 1}
	told := api.Record{Kind: record.Fill, Qty: 3, Price: 9, Tick: 4}
	end := api.Record{Kind: record.Retired, Qty: 1, Price: 2, Tick: 6}
	tests := []struct {
		c       record.Cursor
		at, end api.Record
		want    api.Record
		next    record.Cursor
	}{
		{record.First(), fill, api.Record{}, told, record.Cursor{Gen: 1, N: 1}},
		{record.Cursor{Gen: 3, N: 2}, fill, end, told, record.Cursor{Gen: 3, N: 3}},
		{record.Cursor{Gen: 3, N: 2}, api.Record{}, end, end, record.Cursor{Gen: 4, N: 0}},
		{record.Cursor{Gen: 3, N: 2}, end, end, end, record.Cursor{Gen: 4, N: 0}},
		{record.Cursor{Gen: 3, N: 1}, api.Record{}, end, api.Record{}, record.Cursor{Gen: 3, N: 1}},
		{record.Cursor{Gen: 3, N: 2}, end, fill, api.Record{}, record.Cursor{Gen: 3, N: 2}},
		{record.Cursor{Gen: 3}, api.Record{}, api.Record{}, api.Record{}, record.Cursor{Gen: 3}},
		{record.Cursor{Gen: math.MinInt, N: -1}, api.Record{Kind: 9}, api.Record{Kind: 9}, api.Record{}, record.Cursor{Gen: math.MinInt, N: -1}},
	}
	if record.First() != (record.Cursor{Gen: 1}) {
		t.Error(record.First())
	}
	for i, x := range tests {
		if r, c := record.Next(x.c, x.at, x.end); r != x.want || c != x.next {
			t.Error(i, r, c)
		}
	}
}

// P8.3: records come into a journal in any order; the reader is told each once, fills in order, the end at last.
func TestEachOnce(t *testing.T) {
	all := []api.Record{
		{Kind: record.Fill, Qty: 1, Price: 5, Tick: 1, Cell: 3, Gen: 2},
		{Kind: record.Fill, Qty: 2, Price: 6, Tick: 2, Cell: 4, Gen: 1},
		{Kind: record.Filled, Price: 2, Tick: 2},
	}
	orders := [][]int{{0, 1, 2}, {0, 2, 1}, {1, 0, 2}, {1, 2, 0}, {2, 0, 1}, {2, 1, 0}}
	for _, order := range orders {
		for often := range 4 {
			var journal [3]api.Record
			var told []api.Record
			c := record.First()
			read := func() {
				at := api.Record{}
				if c.N < 2 {
					at = journal[c.N]
				}
				var r api.Record
				if c.Gen == 1 {
					if r, c = record.Next(c, at, journal[2]); r.Kind != record.None {
						told = append(told, r)
					}
				}
			}
			for _, i := range order {
				journal[i] = all[i]
				for range often {
					read()
				}
			}
			for range 4 {
				read()
			}
			if len(told) != 3 || c != (record.Cursor{Gen: 2}) {
				t.Fatal(order, told, c)
			}
			for i, r := range told {
				want := all[i]
				want.Cell, want.Gen = 0, 0
				if r != want {
					t.Error(order, i, r)
				}
			}
		}
	}
}
