package seat

import (
	"gloaming/api"
	"gloaming/cell"
	"gloaming/pair"
	"gloaming/record"
	"gloaming/trace"
)

// What a Cancel comes to.
const (
	busy = iota
	done
	asked
	gone
)

// cancel asks for an order's end, three times: others may change the cell in between.
func (p *Program) cancel(w *pair.World, s *Seat, step int) (Reply, bool) {
	if !p.find(w, s) {
		return p.answer(w, api.ErrCell)
	}
	switch {
	case step == 0:
	case step < 7:
		if p.comes != busy {
			break
		}
		if step%2 == 1 {
			p.look(w)
		} else {
			p.turn(w, s)
		}
	case step == 7:
		if end, over := record.End(p.over, p.at); p.comes == done && over {
			w.Note(p.cell, p.over.Gen, w.R.Fills, end)
		}
	default:
		codes := [...]api.Code{busy: api.ErrBusy, done: 0, asked: 0, gone: api.ErrGone}
		r, ok := p.answer(w, nil)
		r.Code, r.Asked = codes[p.comes], p.comes == asked
		return r, ok
	}
	return Reply{}, false
}

// turn swaps in what a Cancel makes of the state, or sees that there is nothing to be done.
func (p *Program) turn(w *pair.World, s *Seat) {
	st, gen := p.seen.state, s.Gens[p.ask.Cell]
	if s.IDs[p.ask.Cell] != p.ask.ID || gen == 0 || st.Gen != gen || !cell.Live(st) {
		p.comes = gone
		return
	}
	if st.Flag {
		p.comes = asked
		return
	}
	next, err := cell.Cancel(st)
	if err != nil || !w.Turn(p.cell, p.seen.word, next) {
		return
	}
	e := trace.Event{Kind: trace.Ask, Cell: p.cell, Gen: gen}
	p.comes = asked
	if cell.Over(next) {
		e.Kind = trace.Cancel
		p.comes, p.over, p.at = done, next, w.C.Now()
	}
	w.Tell(e)
}
