package field_test

import (
	"errors"
	"math"
	"slices"
	"testing"

	"gloaming/api"
	"gloaming/fault"
	"gloaming/field"
)

func layout(t *testing.T, widths ...int) field.Layout {
	t.Helper()
	l, err := field.New(widths...)
	if err != nil {
		t.Fatal(widths, err)
	}
	return l
}

func wrong(t *testing.T, err error, c api.Code, at int) {
	t.Helper()
	if n, ok := fault.Place(err); fault.Code(err) != c || at >= 0 && (!ok || n != at) {
		t.Errorf("%v, not %d at %d", err, c, at)
	}
}

// P2.1: New
func TestNew(t *testing.T) {
	tests := []struct {
		widths []int
		code   api.Code
		at     int
	}{
		{[]int{0}, api.ErrRange, 0},
		{[]int{3, -1}, api.ErrRange, 1},
		{[]int{3, 33}, api.ErrRange, 1},
		{[]int{32, 32, 1}, api.ErrLimit, 2},
		{[]int{32, 32, 33}, api.ErrRange, 2},
		{[]int{32, 32, 1, 0}, api.ErrLimit, 2},
		{[]int{math.MaxInt, math.MaxInt}, api.ErrRange, 0},
	}
	for _, x := range tests {
		l, err := field.New(x.widths...)
		wrong(t, err, x.code, x.at)
		if l.Fields() != 0 {
			t.Error("a layout beside an error", x.widths)
		}
	}
	if layout(t).Fields() != 0 || layout(t, 32, 32).Fields() != 2 || layout(t, slices.Repeat([]int{1}, 64)...).Fields() != 64 {
		t.Error("Fields")
	}
}

// P2.1: Pack, Get, All, Most
func TestPack(t *testing.T) {
	l := layout(t, 3, 5, 32)
	if w, err := l.Pack(1, 2, 0); err != nil || w != 17 {
		t.Error(w, err)
	}
	w, err := l.Pack(7, 31, 1<<32-1)
	if err != nil || w != 1<<40-1 || !slices.Equal(l.All(w), []int{7, 31, 1<<32 - 1}) {
		t.Error(w, err, l.All(w))
	}
	if l.Most(0) != 7 || l.Most(2) != 1<<32-1 || l.Most(-1) != 0 || l.Most(3) != 0 {
		t.Error("Most")
	}
	if l.Get(17, 1) != 2 || l.Get(17, -1) != 0 || l.Get(17, 3) != 0 || l.Get(math.MaxUint64, 2) != 1<<32-1 {
		t.Error("Get")
	}
	for i, v := range [][]int{{-1, 0, 0}, {0, 32, 0}, {0, 0, 1 << 32}, {8, -1, 0}} {
		w, err := l.Pack(v...)
		wrong(t, err, api.ErrRange, i%3)
		if w != 0 {
			t.Error("a word beside an error")
		}
	}
	for _, v := range [][]int{nil, {1, 2}, {1, 2, 3, 4}, {-1}} {
		if w, err := l.Pack(v...); w != 0 || !errors.Is(err, api.ErrArg) {
			t.Error(v, w, err)
		}
	}
	var none field.Layout
	if w, err := none.Pack(); w != 0 || err != nil || len(none.All(7)) != 0 || none.Fields() != 0 {
		t.Error("of no fields")
	}
}

// P2.1: With, Sound
func TestWith(t *testing.T) {
	l := layout(t, 3, 5)
	if w, err := l.With(math.MaxUint64, 1, 4); err != nil || w != math.MaxUint64&^(31<<3)|4<<3 {
		t.Error(w, err)
	}
	for _, i := range []int{-1, 2} {
		if w, err := l.With(1, i, -1); w != 0 || !errors.Is(err, api.ErrNone) {
			t.Error(w, err)
		}
	}
	for _, v := range []int{-1, 32} {
		w, err := l.With(1, 1, v)
		wrong(t, err, api.ErrRange, 1)
		if w != 0 {
			t.Error("a word beside an error")
		}
	}
	if !l.Sound(255) || l.Sound(256) || l.Sound(1<<63) || !layout(t, 32, 32).Sound(math.MaxUint64) || !(field.Layout{}).Sound(0) || (field.Layout{}).Sound(1) {
		t.Error("Sound")
	}
}

// P2.2
func TestSums(t *testing.T) {
	tests := []struct {
		most uint64
		l    []uint64
		want uint64
	}{
		{10, nil, 0},
		{10, []uint64{7, 3}, 10},
		{10, []uint64{7, 4}, 10},
		{10, []uint64{3, 4, 0}, 7},
		{0, []uint64{1}, 0},
		{math.MaxUint64, []uint64{math.MaxUint64, 1}, math.MaxUint64},
		{math.MaxUint64 - 1, []uint64{math.MaxUint64, 2}, math.MaxUint64 - 1},
		{10, []uint64{11, math.MaxUint64}, 10},
	}
	for _, x := range tests {
		if n := field.Add(x.most, x.l...); n != x.want {
			t.Error(x, n)
		}
	}
	for _, x := range [][3]int{{0, 0, 0}, {10, 7, 8}, {7, 10, 8}, {3, 3, 3}, {0, 1, 0}, {1e9, 1e9, 1e9}, {1e9, 1e9 - 1, 1e9 - 1}} {
		if n := field.Mid(x[0], x[1]); n != x[2] {
			t.Error(x, n)
		}
	}
	field.Mid(math.MaxInt, math.MinInt)
}

// P2.3
func TestRoundTrip(t *testing.T) {
	l := layout(t, 4, 1, 8, 16, 32, 3)
	word := uint64(0x9e3779b97f4a7c15)
	for range 1000 {
		word = word*6364136223846793005 + 1
		all := l.All(word)
		got, err := l.Pack(all...)
		if err != nil || got != word || !l.Sound(word) {
			t.Fatal(word, all, got, err)
		}
		for i, v := range all {
			w, err := l.With(0, i, v)
			if err != nil || l.Get(w, i) != v || l.Get(got, i) != v {
				t.Fatal(word, i, v, err)
			}
		}
	}
}
