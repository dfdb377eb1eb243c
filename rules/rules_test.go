package rules_test

import (
	"errors"
	"math"
	"slices"
	"testing"

	"gloaming/api"
	"gloaming/fault"
	"gloaming/rules"
)

func made(t *testing.T, c api.Config) rules.Rules {
	t.Helper()
	r, err := rules.New(c)
	if err != nil {
		t.Fatal(c, err)
	}
	return r
}

var some = []api.Config{
	{Parts: 1, Cells: 1, Names: 1, Bands: 1, Probes: 0, Fills: 1, Gens: 1},
	{Parts: 2, Cells: 3, Names: 2, Bands: 3, Probes: 1, Fills: 2, Gens: 4},
	{Parts: 6, Cells: 4, Names: 3, Bands: 4, Probes: 4, Fills: 4, Gens: 15},
}

// P5.1: New
func TestNew(t *testing.T) {
	for _, c := range some {
		if r := made(t, c); r.Config != c {
			t.Error(r)
		}
	}
	names := []string{"parts", "cells", "names", "bands", "probes", "fills", "gens"}
	most := []int{6, 4, 3, 4, 4, 4, 15}
	for i, name := range names {
		for _, v := range []int{-1, most[i] + 1, math.MaxInt, math.MinInt, 0} {
			if v == 0 && name == "probes" {
				continue
			}
			c := some[0]
			f := []*int{&c.Parts, &c.Cells, &c.Names, &c.Bands, &c.Probes, &c.Fills, &c.Gens}
			*f[i] = v
			if i < 6 {
				*f[6] = 99 // a later field that is wrong, too
			}
			r, err := rules.New(c)
			at, ok := fault.Place(err)
			if !errors.Is(err, api.ErrRange) || !ok || at != i || !slices.Equal(fault.Words(err), []string{name}) || r != (rules.Rules{}) {
				t.Error(name, v, err)
			}
			if f, ok := err.(*fault.Fault); !ok || f.At != i {
				t.Error("the place isn't outermost", err)
			}
		}
	}
}

// P5.1: numbers of cells, shards and agents.
func TestNumbers(t *testing.T) {
	r := made(t, some[1])
	if r.All() != 6 || r.Shards() != 6 || r.Agents() != 14 || r.Words() != 6*(2+4*3) {
		t.Error(r.All(), r.Shards(), r.Agents(), r.Words())
	}
	if r.Cell(1, 2) != 5 || r.Owner(5) != 1 || r.Own(5) != 2 || r.Shard(1, 2) != 5 || r.Sweeper(0) != 2 || r.Sweeper(5) != 7 || r.Reaper(0) != 8 || r.Reaper(5) != 13 {
		t.Error("a number")
	}
	if n, b := r.Parted(4); n != 1 || b != 1 {
		t.Error(n, b)
	}
	for _, x := range [][2]int{{-1, 0}, {2, 0}, {0, -1}, {0, 3}, {math.MaxInt, math.MaxInt}, {math.MinInt, 0}} {
		if r.Cell(x[0], x[1]) != -1 || r.Shard(x[0], x[1]) != -1 {
			t.Error(x)
		}
	}
	for _, x := range []int{-1, 6, math.MaxInt, math.MinInt} {
		if n, b := r.Parted(x); n != -1 || b != -1 {
			t.Error(x, n, b)
		}
		if r.Owner(x) != -1 || r.Own(x) != -1 || r.Sweeper(x) != -1 || r.Reaper(x) != -1 || r.StateAt(x) != -1 || r.TermsAt(x) != -1 || r.SlotAt(x, 1, 0) != -1 {
			t.Error(x)
		}
	}
	for _, c := range some {
		r := made(t, c)
		for x := range r.All() {
			if r.Cell(r.Owner(x), r.Own(x)) != x {
				t.Error(c, x)
			}
		}
		for x := range r.Shards() {
			if r.Shard(r.Parted(x)) != x {
				t.Error(c, x)
			}
		}
	}
}

// P5.2
func TestBands(t *testing.T) {
	r := made(t, some[2])
	for _, x := range [][2]int{{0, -1}, {-5, -1}, {10000, -1}, {math.MaxInt, -1}, {1, 0}, {2500, 0}, {2501, 1}, {5000, 1}, {5001, 2}, {7500, 2}, {7501, 3}, {9999, 3}} {
		if b := r.Band(x[0]); b != x[1] || b >= 0 && b != (x[0]-1)*4/9999 {
			t.Error(x, b)
		}
	}
	if !slices.Equal(r.Crossing(api.Buy, 6000), []int{0, 1, 2}) || !slices.Equal(r.Crossing(api.Sell, 3000), []int{3, 2, 1}) || !slices.Equal(r.Crossing(api.Buy, 1), []int{0}) || !slices.Equal(r.Crossing(api.Sell, 9999), []int{3}) {
		t.Error("Crossing")
	}
	for _, x := range [][2]int{{-1, 5}, {2, 5}, {0, 0}, {1, 10000}} {
		if len(r.Crossing(x[0], x[1])) != 0 {
			t.Error(x)
		}
	}
}

// P5.2: where words stand, as their order has it.
func TestPlaces(t *testing.T) {
	r := made(t, some[1])
	if r.StateAt(0) != 0 || r.TermsAt(0) != 1 || r.StateAt(5) != 10 || r.TermsAt(5) != 11 {
		t.Error("state, terms")
	}
	if r.SlotAt(0, 1, 0) != 12 || r.SlotAt(0, 1, 2) != 14 || r.SlotAt(0, 2, 0) != 15 || r.SlotAt(1, 1, 0) != 24 || r.SlotAt(5, 4, 2) != r.Words()-1 {
		t.Error("records")
	}
	for _, x := range [][3]int{{0, 0, 0}, {0, 5, 0}, {0, 1, -1}, {0, 1, 3}, {-1, 1, 0}, {6, 1, 0}} {
		if r.SlotAt(x[0], x[1], x[2]) != -1 {
			t.Error(x)
		}
	}
}

// P5.3: no two words stand at one place, and all below Words.
func TestApart(t *testing.T) {
	for _, c := range some {
		r := made(t, c)
		seen := make([]int, r.Words())
		for x := range r.All() {
			seen[r.StateAt(x)]++
			seen[r.TermsAt(x)]++
			for g := 1; g <= r.Gens; g++ {
				for n := range r.Fills + 1 {
					seen[r.SlotAt(x, g, n)]++
				}
			}
		}
		for at, n := range seen {
			if n != 1 {
				t.Error(c, at, n)
			}
		}
		if r.Words() > api.MaxWords {
			t.Error(r.Words())
		}
	}
}

// P5.3: where two may trade, bands cross.
func TestCross(t *testing.T) {
	for bands := 1; bands <= api.MaxBands; bands++ {
		c := some[0]
		c.Bands = bands
		r := made(t, c)
		for buy := 1; buy <= api.MaxPrice; buy += 101 {
			for sell := 1; sell <= buy; sell += 97 {
				if !slices.Contains(r.Crossing(api.Buy, buy), r.Band(sell)) || !slices.Contains(r.Crossing(api.Sell, sell), r.Band(buy)) {
					t.Fatal(bands, buy, sell)
				}
			}
		}
	}
}
