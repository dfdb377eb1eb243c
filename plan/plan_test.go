package plan_test

import (
	"math"
	"slices"
	"testing"

	"gloaming/api"
	"gloaming/plan"
	"gloaming/pool"
	"gloaming/rules"
)

func made(t *testing.T) rules.Rules {
	t.Helper()
	r, err := rules.New(api.Config{Parts: 2, Cells: 1, Names: 1, Bands: 1, Fills: 1, Gens: 1})
	if err != nil {
		t.Fatal(err)
	}
	return r // of four agents
}

// of are picks of agents.
func of(agents ...int) []pool.Event {
	var l []pool.Event
	for _, a := range agents {
		l = append(l, pool.Event{Kind: pool.Pick, Who: a})
	}
	return l
}

var tick = pool.Event{Kind: pool.Tick, N: 1}

// P21.1
func TestRows(t *testing.T) {
	r := made(t)
	if !slices.Equal(plan.Burst(2, 3), of(2, 2, 2)) || len(plan.Burst(2, -1)) != 0 || len(plan.Burst(2, 0)) != 0 || len(plan.Burst(-7, 65537)) != 65536 || len(plan.Burst(0, math.MaxInt)) != 65536 {
		t.Error("Burst")
	}
	if !slices.Equal(plan.Round(r, 2), of(0, 1, 2, 3, 0, 1, 2, 3)) || len(plan.Round(r, -3)) != 0 || len(plan.Round(r, 5000)) != 4*4096 {
		t.Error("Round")
	}
	if !slices.Equal(plan.Drawn(r, -1, 0, 6, math.MinInt), of(3, 0, 2, 0)) || len(plan.Drawn(r)) != 0 {
		t.Error("Drawn")
	}
	if !slices.Equal(plan.Weighted([]int{2, 0, -1, 1}, 2), of(0, 0, 3, 0, 0, 3)) || len(plan.Weighted([]int{65, math.MaxInt}, 1)) != 128 || len(plan.Weighted([]int{1}, 5000)) != 4096 || len(plan.Weighted(nil, 5)) != 0 || len(plan.Weighted([]int{1}, -1)) != 0 {
		t.Error("Weighted")
	}
}

// P21.2
func TestMix(t *testing.T) {
	a, b := of(0, 0, 0, 0, 0), of(1)
	if l := plan.Mix(a, nil, b, of(2, 2)); !slices.Equal(l, of(0, 1, 2, 0, 2, 0, 0, 0)) || !slices.Equal(a, of(0, 0, 0, 0, 0)) {
		t.Error(l)
	}
	if len(plan.Mix()) != 0 || len(plan.Mix(nil, nil)) != 0 {
		t.Error("of nothing")
	}
	l := []pool.Event{{Kind: pool.Pick, Who: 1}, tick, {Kind: pool.Draw, Who: 1}, {Kind: pool.Pick, Who: 2}, {Kind: pool.Pick, Who: 1}}
	if got := plan.Without(1, l...); !slices.Equal(got, []pool.Event{tick, l[2], l[3]}) || l[0].Kind != pool.Pick {
		t.Error(got)
	}
	if len(plan.Without(1)) != 0 {
		t.Error("of nothing")
	}
}

// P21.3: Picked, Gap, Fair
func TestFair(t *testing.T) {
	r := made(t)
	l := slices.Concat(of(0, 1, 2, 3, 4, -1), []pool.Event{tick, {Kind: pool.Line, Who: 1}}, of(0, 1, 2, 3, 0))
	if n := plan.Picked(r, l...); !slices.Equal(n, []int{3, 2, 2, 2}) {
		t.Error(n)
	}
	if n := plan.Picked(r); !slices.Equal(n, []int{0, 0, 0, 0}) {
		t.Error(n)
	}
	for agent, want := range map[int]int{0: 7, 1: 7, 2: 7, 3: 7, 4: 8, -1: 7, 5: 13} {
		if n := plan.Gap(agent, l...); n != want {
			t.Error(agent, n)
		}
	}
	if plan.Gap(0) != 0 || plan.Gap(0, of(0, 0)...) != 0 || plan.Gap(0, of(1, 1, 0)...) != 2 || plan.Gap(0, of(0, 1, 1, 1)...) != 3 {
		t.Error("Gap")
	}
	if !plan.Fair(r, 8, l...) || plan.Fair(r, 7, l...) {
		t.Error("Fair")
	}
	rounds := plan.Round(r, 3)
	if !plan.Fair(r, 4, rounds...) || plan.Fair(r, 3, rounds...) || plan.Fair(r, -9, rounds...) || !plan.Fair(r, 1) || !plan.Fair(r, -1) || plan.Fair(r, 1, tick) {
		t.Error("Fair")
	}
}

// P21.3: Runs
func TestRuns(t *testing.T) {
	if l := plan.Runs(append(plan.Burst(2, 3), plan.Burst(0, 1)...)...); !slices.Equal(l, [][2]int{{2, 3}, {0, 1}}) {
		t.Error(l)
	}
	l := slices.Concat([]pool.Event{tick}, of(1, 1), []pool.Event{tick}, of(1, -2, -2), []pool.Event{{Kind: pool.Line, Who: -2}}, of(-2))
	if got := plan.Runs(l...); !slices.Equal(got, [][2]int{{1, 2}, {1, 1}, {-2, 2}, {-2, 1}}) {
		t.Error(got)
	}
	if len(plan.Runs()) != 0 || len(plan.Runs(tick)) != 0 {
		t.Error("of nothing")
	}
}
