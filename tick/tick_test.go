package tick_test

import (
	"math"
	"testing"

	"gloaming/api"
	"gloaming/tick"
)

// P4.1
func TestClock(t *testing.T) {
	var c tick.Clock
	if c.Now() != 0 || c.Full() || !c.Due(0) || !c.Due(-1) || c.Due(1) {
		t.Error("a new clock")
	}
	if n := c.Go(3, -1, 4); n != 7 || c.Now() != 7 {
		t.Error(n)
	}
	if c.Go() != 7 || c.Go(0) != 7 || c.Go(math.MinInt, -5) != 7 {
		t.Error("went by nothing")
	}
	if !c.Due(7) || c.Due(8) || !c.Due(math.MinInt) || c.Due(math.MaxInt) {
		t.Error("Due")
	}
	if c.Go(api.MaxTick-8) != api.MaxTick-1 || c.Full() {
		t.Error("near the end")
	}
	if c.Go(math.MaxInt, math.MaxInt, 1) != api.MaxTick || !c.Full() || c.Now() != api.MaxTick || c.Go(-9) != api.MaxTick {
		t.Error("at the end")
	}
	if c.Due(api.MaxTick+1) || !c.Due(api.MaxTick) {
		t.Error("Due at the end")
	}
	var none *tick.Clock
	if none.Now() != 0 || none.Go(3) != 0 || none.Due(-1) || none.Full() {
		t.Error("of nil")
	}
}

// P4.2
func TestTape(t *testing.T) {
	var x tick.Tape
	if n, ok := x.Take(); n != 0 || ok || x.Left() != 0 || x.Taken() != 0 {
		t.Error("an empty tape")
	}
	given := []int{5, -6}
	x.Put(given...)
	x.Put()
	given[0] = 1
	x.Put(0)
	for i, want := range []int{5, -6, 0} {
		if x.Left() != 3-i || x.Taken() != i {
			t.Error(x.Left(), x.Taken())
		}
		if n, ok := x.Take(); n != want || !ok {
			t.Error(n, ok)
		}
	}
	if n, ok := x.Take(); n != 0 || ok || x.Left() != 0 || x.Taken() != 3 {
		t.Error("a tape at its end")
	}
	x.Put(9)
	if n, ok := x.Take(); n != 9 || !ok || x.Taken() != 4 {
		t.Error("a tape that goes on")
	}
	var none *tick.Tape
	none.Put(1)
	if n, ok := none.Take(); n != 0 || ok || none.Left() != 0 || none.Taken() != 0 {
		t.Error("of nil")
	}
}

// P4.3
func TestPick(t *testing.T) {
	for _, x := range [][3]int{{-1, 4, 3}, {0, 4, 0}, {4, 4, 0}, {7, 4, 3}, {-4, 4, 0}, {-5, 4, 3}, {5, 1, 0}, {5, 0, 0}, {5, -4, 0}, {math.MinInt, 2, 0}, {math.MaxInt, 2, 1}, {-1, math.MaxInt, math.MaxInt - 1}, {3, math.MinInt, 0}} {
		if n := tick.Pick(x[0], x[1]); n != x[2] {
			t.Error(x, n)
		}
	}
}
