package mem_test

import (
	"errors"
	"math"
	"slices"
	"testing"

	"gloaming/api"
	"gloaming/fault"
	"gloaming/mem"
)

func words(t *testing.T, n int) *mem.Mem {
	t.Helper()
	m, err := mem.New(n)
	if err != nil {
		t.Fatal(err)
	}
	return m
}

// P3.1: New, Len
func TestNew(t *testing.T) {
	for _, n := range []int{0, 1, api.MaxWords} {
		m := words(t, n)
		if m.Len() != n || !slices.Equal(m.Words(), make([]uint64, n)) || m.Steps() != 0 || m.Last() != (mem.Step{}) {
			t.Error(n, m.Len())
		}
	}
	for _, n := range []int{-1, api.MaxWords + 1, math.MaxInt, math.MinInt} {
		if m, err := mem.New(n); m != nil || !errors.Is(err, api.ErrLimit) {
			t.Error(n, err)
		}
	}
}

// P3.1, P3.2: each step does what it says, and is told.
func TestSteps(t *testing.T) {
	m := words(t, 2)
	if ok, err := m.Swap(0, 0, 7); !ok || err != nil || m.Last() != (mem.Step{Kind: 3, At: 0, Was: 0, Now: 7, Done: true}) {
		t.Error(ok, err, m.Last())
	}
	if ok, err := m.Swap(0, 0, 8); ok || err != nil || m.Last() != (mem.Step{Kind: 3, At: 0, Was: 7, Now: 7, Done: false}) {
		t.Error(ok, err, m.Last())
	}
	if w, err := m.Load(0); w != 7 || err != nil || m.Last() != (mem.Step{Kind: 1, At: 0, Was: 7, Now: 7, Done: true}) {
		t.Error(w, err, m.Last())
	}
	if err := m.Store(1, math.MaxUint64); err != nil || m.Last() != (mem.Step{Kind: 2, At: 1, Was: 0, Now: math.MaxUint64, Done: true}) {
		t.Error(err, m.Last())
	}
	if ok, _ := m.Swap(1, math.MaxUint64, math.MaxUint64); !ok || !m.Last().Done {
		t.Error("a swap for the same")
	}
	if m.Steps() != 5 || !slices.Equal(m.Words(), []uint64{7, math.MaxUint64}) || m.Steps() != 5 {
		t.Error(m.Steps(), m.Words())
	}
	if mem.Load != 1 || mem.Store != 2 || mem.Swap != 3 {
		t.Error("kinds")
	}
}

// A step that is refused is none.
func TestRefused(t *testing.T) {
	m := words(t, 1)
	m.Store(0, 5)
	last := m.Last()
	for _, at := range []int{-1, 1, math.MaxInt, math.MinInt} {
		w, e1 := m.Load(at)
		e2 := m.Store(at, 1)
		ok, e3 := m.Swap(at, 0, 1)
		for _, e := range []error{e1, e2, e3} {
			if p, in := fault.Place(e); !errors.Is(e, api.ErrRange) || !in || p != at {
				t.Error(at, e)
			}
		}
		if w != 0 || ok {
			t.Error("something beside an error")
		}
	}
	if m.Steps() != 1 || m.Last() != last || m.Words()[0] != 5 {
		t.Error("a step that was refused was taken")
	}
	var none *mem.Mem
	_, e1 := none.Load(0)
	e2 := none.Store(0, 1)
	_, e3 := none.Swap(0, 0, 1)
	if !errors.Is(e1, api.ErrNil) || !errors.Is(e2, api.ErrNil) || !errors.Is(e3, api.ErrNil) {
		t.Error(e1, e2, e3)
	}
	if none.Len() != 0 || none.Steps() != 0 || none.Last() != (mem.Step{}) || len(none.Words()) != 0 || none.Twin() != nil {
		t.Error("something of nil")
	}
}

// P3.1: a twin is the same, for itself; what is handed out is new.
func TestTwin(t *testing.T) {
	m := words(t, 2)
	m.Store(0, 3)
	x := m.Twin()
	if !slices.Equal(x.Words(), m.Words()) || x.Steps() != 1 || x.Last() != m.Last() {
		t.Error("a twin is another one")
	}
	x.Store(0, 4)
	m.Store(1, 5)
	m.Words()[0] = 9
	if !slices.Equal(x.Words(), []uint64{4, 0}) || !slices.Equal(m.Words(), []uint64{3, 5}) || x.Steps() != 2 || m.Steps() != 2 {
		t.Error(x.Words(), m.Words())
	}
}

// P3.3
func TestLastWins(t *testing.T) {
	m := words(t, 4)
	var want [4]uint64
	n := uint64(1)
	for range 2000 {
		n = n*6364136223846793005 + 1442695040888963407
		at, w := int(n>>60&3), n>>50&3
		switch n >> 40 & 3 {
		case 0:
			m.Store(at, w)
			want[at] = w
		case 1, 2:
			ok, _ := m.Swap(at, n>>30&3, w)
			if ok != (want[at] == n>>30&3) {
				t.Fatal("swap")
			}
			if ok {
				want[at] = w
			}
		default:
			if got, _ := m.Load(at); got != want[at] {
				t.Fatal("load")
			}
		}
		if !slices.Equal(m.Words(), want[:]) {
			t.Fatal(m.Words(), want)
		}
	}
}
