package console_test

import (
	"slices"
	"strconv"
	"strings"
	"testing"

	"gloaming/api"
	"gloaming/audit"
	"gloaming/book"
	"gloaming/ceiling"
	"gloaming/console"
	"gloaming/gate"
	"gloaming/line"
	"gloaming/points"
	"gloaming/pool"
	"gloaming/redact"
	"gloaming/report"
	"gloaming/settle"
	"gloaming/shrink"
	"gloaming/storm"
	"gloaming/story"
)

const begin = "begin 2 2 1 1 1 2 9"

var config = api.Config{Parts: 2, Cells: 2, Names: 1, Bands: 1, Probes: 1, Fills: 2, Gens: 9}

// P32.1: the document's example.
func TestRun(t *testing.T) {
	if l := console.Run("begin 1 1 1 1 0 1 1", "say 0 poll"); !slices.Equal(l, []string{"ok", "to 0: 0 wrong 11 at 4"}) {
		t.Error(l)
	}
	if len(console.Run()) != 0 {
		t.Error("of no lines")
	}
	var none *console.Console
	if len(none.Do(begin)) != 0 {
		t.Error("of nil")
	}
}

// P32.1: errors, the first one first; nothing is done by them.
func TestErrors(t *testing.T) {
	for _, s := range []string{"foo", "say", "say 0 view", "tick x", "cells", "cells 1", "storm x", " begin 1 1 1 1 0 1 1", "beginning", "told x"} {
		if l := console.Run(s); !slices.Equal(l, []string{"error other at 0"}) {
			t.Errorf("%q: %v", s, l)
		}
	}
	c := console.New()
	for s, want := range map[string]string{
		"begin": "error short", "begin 1 1 1 1 0 1": "error short", "begin x": "error short", "begin 1 1 1 1 0 1 1 1": "error more", "begin 1 1 1 1 0 1 1 x": "error more", "begin 1 1 1 1 0 1 ": "error num at 7",
		"begin 1 1 x 9 0 x 1": "error num at 3", "begin 01 1 1 1 0 1 1": "error num at 1", "begin -1 1 1 1 0 1 1": "error num at 1", "begin 7 1 1 1 0 1 1": "error other at 0", "begin 1 1 1 9 9 1 1": "error other at 3", "begin 1 1 1 1 0 1 16": "error other at 6",
	} {
		if l := c.Do(s); !slices.Equal(l, []string{want}) {
			t.Errorf("%q: %v", s, l)
		}
	}
	if l := c.Do("cells"); !slices.Equal(l, []string{"error other at 0"}) {
		t.Error("a gate by an error", l)
	}
	c.Do(begin)
	c.Do("tick 7")
	for s, want := range map[string]string{
		"foo": "error word at 0", " cells": "error word at 0", "Cells": "error word at 0", "?": "error word at 0", "view": "error word at 0",
		"say": "error num at 4", "say 0": "error num at 4", "tick x": "error num at 5", "tick 1 2": "error word at 0", "pick 0 1": "error word at 0", "draw 0": "error word at 0", "says 0 view": "error word at 0",
		"cells ": "error more", "cells 1": "error more", "finish x": "error more", "settle 1": "error more", "log 1": "error more", "rows 1": "error more", "numbers 1": "error more", "health 1": "error more", "events 1": "error more", "flaws 1": "error more", "ceiling 1": "error more", "late 1": "error more",
		"book": "error short", "told": "error short", "bare": "error short", "shrink": "error short", "storm": "error short", "storm 1": "error short", "storm x": "error short",
		"book 1 x": "error more", "told 0 0": "error more", "storm 1 2 3": "error more",
		"book x": "error num at 1", "book ": "error num at 1", "told -1": "error num at 1", "bare 01": "error num at 1", "shrink x": "error num at 1", "storm 1 x": "error num at 2", "storm x x": "error num at 1", "storm 10000000 1": "error num at 1",
		"begin 1 1": "error short", "begin 9 1 1 1 0 1 1": "error other at 0",
	} {
		if l := c.Do(s); !slices.Equal(l, []string{want}) {
			t.Errorf("%q: %v", s, l)
		}
	}
	if l := c.Do("say 1 x"); !slices.Equal(l, []string{"to 1: 7 wrong 10 at 0"}) {
		t.Error("something was done", l)
	}
	if l := c.Do("bare 0"); !slices.Equal(l, []string{"1 of 1"}) {
		t.Error(l)
	}
}

// P32.1: what is told, and what comes to the pool.
func TestStory(t *testing.T) {
	c := console.New()
	do := func(s string, want ...string) {
		t.Helper()
		if l := c.Do(s); !slices.Equal(l, want) {
			t.Errorf("%q: %v", s, l)
		}
	}
	do(begin, "ok")
	do("")
	do("# tick 5")
	do("tick 3")
	do("say 0 submit 1 0 buy 0 5 10 1 50")
	do("say 1 cancel 07 0", "to 1: 3 wrong 13 at 7")
	do("say 2 view")
	do("say 7 x")
	do("draw 0 3")
	do("pick 0 200", "to 0: 3 submit 1 0 ok")
	do("say 1 submit 4 1 sell 0 3 8 1 50")
	do("say 1 poll 1")
	do("bare 0", "205 of 205") // a Line that is none, or of nobody, didn't come to the pool
	do("told 1", "3 wrong 13 at 7")
	do("finish", "to 1: 3 submit 4 1 ok", "to 1: 3 poll 1 fill 3 9 3")
	do("told 1", "3 wrong 13 at 7", "3 submit 4 1 ok", "3 poll 1 fill 3 9 3")
	do("told 9")
	do("cells", "cell 0 of 0 live left 2 fills 1 buy 0 at 10 least 1 until 50", "cell 1 of 0 free", "cell 2 of 1 free", "cell 3 of 1 filled")
	do("book 0", "buy 10 2 1")
	do("book 4")
	do("rows", "part 0 name 0 bought 3 sold 0 net 3 -27", "part 1 name 0 bought 0 sold 3 net -3 27")
	do("numbers", "orders 2 live 1 filled 1 cancelled 0 expired 0 retired 0 rate 750 wait 0 0")
	do("health", "log true quiet true clear true flaws 0")
	do("events", "3 submit 0 1 buy 0 at 10 least 1 until 50 of 5", "3 rest 0 1", "3 submit 3 1 sell 0 at 8 least 1 until 50 of 3", "3 fill 3 1 with 0 1 of 3 at 9", "3 over 3 1 filled")
	do("log", "3 cell 0 1 fill 3 at 9 with 3 1", "3 cell 3 1 fill 3 at 9 with 0 1", "3 cell 3 1 filled left 0 fills 1")
	do("flaws", "0")
	do("ceiling", "0")
	do("late", "0")
	do("shrink 2", "none")
	do("tick 47")
	do("settle")
	do("cells", "cell 0 of 0 expired", "cell 1 of 0 free", "cell 2 of 1 free", "cell 3 of 1 filled")
	do(begin, "ok")
	do("events")
	do("told 1")
	do("bare 1", "0 of 0")
	do("shrink 0", "0 of 0")
}

// P32.2: it is what the layers' calls answer.
func TestLayers(t *testing.T) {
	for seed := range 12 {
		c := console.New()
		c.Do(begin)
		g, err := gate.New(config)
		if err != nil {
			t.Fatal(err)
		}
		var script []pool.Event
		same := func(s string, want []string) {
			t.Helper()
			if l := c.Do(s); !slices.Equal(l, want) {
				t.Fatalf("%q: %v, not %v", s, l, want)
			}
		}
		told := func(f func()) []string {
			was := len(g.Said())
			f()
			var l []string
			for _, s := range g.Said()[was:] {
				l = append(l, "to "+strconv.Itoa(s.Part)+": "+s.Line)
			}
			return l
		}
		same("storm "+strconv.Itoa(seed)+" 1500", told(func() {
			for _, e := range storm.Script(g.Pool().R, uint64(seed), storm.Calm(), 1500) {
				x := gate.Event{Kind: e.Kind, Who: e.Who, N: e.N}
				if e.Kind == pool.Line {
					x.Line, _ = line.Print(e.Ask)
					e.Ask, _ = line.Parse(x.Line)
				}
				g.Do(x)
				script = append(script, e)
			}
		}))
		look := func() {
			p := g.Pool()
			var events []string
			for _, e := range p.Events() {
				events = append(events, report.Event(e))
			}
			rows, _ := report.Rows(p)
			late, _ := points.Late(config, len(script)+1, script...)
			r, err := redact.New(config, script...)
			if err != nil {
				t.Fatal(err)
			}
			same("cells", report.Cells(p))
			same("log", report.Log(p))
			same("rows", rows)
			same("numbers", []string{report.Numbers(p)})
			same("health", []string{report.Health(p)})
			same("book 0", report.Book(p, 0))
			same("events", events)
			same("flaws", []string{strconv.Itoa(len(audit.Check(p.R, audit.Of(p))))})
			same("ceiling", []string{strconv.Itoa(ceiling.All(p.R, book.Of(p)))})
			same("late", []string{strconv.Itoa(len(late))})
			same("told 1", g.To(1))
			same("bare 1", []string{strconv.Itoa(len(r.Bare(1))) + " of " + strconv.Itoa(len(script))})
		}
		look()
		l, ok := shrink.Script(script, shrink.Fills(config, 1))
		if ok {
			same("shrink 1", []string{strconv.Itoa(len(l)) + " of " + strconv.Itoa(len(script))})
		} else {
			same("shrink 1", []string{"none"})
		}
		same("finish", told(func() { script = append(script, settle.Finish(g.Pool())...) }))
		look()
		same("settle", told(func() { script = append(script, settle.Settle(g.Pool())...) }))
		same("tick 3", told(func() {
			g.Do(gate.Event{Kind: pool.Tick, N: 3})
			script = append(script, pool.Event{Kind: pool.Tick, N: 3})
		}))
		look()
	}
}

// P32.1: a storm has at most 5000 events.
func TestStorm(t *testing.T) {
	c := console.New()
	c.Do(begin)
	if l := c.Do("storm 3 0"); len(l) != 0 {
		t.Error(l)
	}
	c.Do("storm 3 5001")
	if l := c.Do("shrink 0"); !slices.Equal(l, []string{"0 of 5000"}) {
		t.Error(l)
	}
	c.Do("storm 9999999 9999999")
	if l := c.Do("shrink 0"); !slices.Equal(l, []string{"0 of 10000"}) {
		t.Error(l)
	}
}

// P32.2: the same lines, the same answers; a story's lines tell what a story does.
func TestSame(t *testing.T) {
	lines := []string{begin, "say 0 view", "tick 2", "pick 0 5", "storm 7 800", "settle", "events", "log", "say 1 poll 0", "pick 1 9", "told 0"}
	if a, b := console.Run(lines...), console.Run(lines...); !slices.Equal(a, b) || len(a) < 20 {
		t.Error(len(a), len(b))
	}
	tale := []string{"say 0 view", "say 1 poll", "", "tick 2", "# x", "draw 1 -7", "pick 0 5", "say 0 submit 1 1 buy 0 1 1 1 9", "pick 0 99"}
	g, err := story.Play(config, tale...)
	if err != nil {
		t.Fatal(err)
	}
	var want []string
	for _, s := range g.Said() {
		want = append(want, "to "+strconv.Itoa(s.Part)+": "+s.Line)
	}
	if l := console.Run(append([]string{begin}, tale...)...); strings.Join(l[1:], "\n") != strings.Join(want, "\n") {
		t.Error(l, want)
	}
}
