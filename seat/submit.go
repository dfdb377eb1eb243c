package seat

import (
	"gloaming/api"
	"gloaming/cell"
	"gloaming/pair"
	"gloaming/rules"
	"gloaming/terms"
	"gloaming/trace"
)

// Aims are all tries of an order behind its first steps: probes, whose others are drawn, and its scan.
func Aims(r rules.Rules, c, gen int, t api.Terms) []pair.Aim {
	var aims []pair.Aim
	for range r.Probes {
		aims = append(aims, pair.Aim{Way: pair.Arena, X: c, Gen: gen, Y: -1})
	}
	for _, band := range r.Crossing(t.Side, t.Price) {
		shard := r.Shard(t.Name, band)
		for y := range r.All() {
			aims = append(aims, pair.Aim{Way: pair.Scan, X: c, Gen: gen, Y: y, Shard: shard})
		}
	}
	return aims
}

// submit lays an order into a cell, seeks others for it, and lets it rest.
func (p *Program) submit(w *pair.World, s *Seat, step int) (Reply, bool) {
	if step > 0 && !p.find(w, s) {
		return p.answer(w, api.ErrCell)
	}
	switch step {
	case 0:
		if err := p.refused(w, s); err != nil {
			return p.answer(w, err)
		}
	case 1:
		_, st := w.State(p.cell)
		begun, err := cell.Begin(st, p.ask.Qty, w.R.Gens)
		if err != nil {
			return p.answer(w, err)
		}
		p.begun = begun
	case 2:
		if word, err := terms.Word(p.ask.Terms); err == nil {
			w.M.Store(w.R.TermsAt(p.cell), word)
		}
	case 3:
		p.lay(w, s)
	default:
		return p.seek(w, step-firstTry)
	}
	return Reply{}, false
}

// refused says why an order can't be, whatever the cell's state is.
func (p *Program) refused(w *pair.World, s *Seat) error {
	a := p.ask
	if a.ID <= s.Last || a.ID > api.MaxID {
		return api.ErrIdent
	}
	if !p.find(w, s) {
		return api.ErrCell
	}
	return terms.Check(w.R, a.Terms, a.Qty, w.C.Now())
}

// lay stores the order's state: from here on it is there.
func (p *Program) lay(w *pair.World, s *Seat) {
	a, gen := p.ask, p.begun.Gen
	if word, err := cell.Word(p.begun); err == nil {
		w.M.Store(w.R.StateAt(p.cell), word)
	}
	w.Tell(trace.Event{Kind: trace.Submit, Cell: p.cell, Gen: gen, Terms: a.Terms, Qty: a.Qty})
	s.Last, s.IDs[a.Cell], s.Gens[a.Cell] = a.ID, a.ID, gen
	p.aims = Aims(w.R, p.cell, gen, a.Terms)
}

// seek takes the steps of all tries, then those by which the order rests, then the last one.
func (p *Program) seek(w *pair.World, step int) (Reply, bool) {
	rest := step - pair.Steps*len(p.aims)
	switch {
	case rest < 0:
		p.tryNext(w, step)
	case rest < restSteps(w.R):
		p.rest(w, rest)
	default:
		return p.answer(w, nil)
	}
	return Reply{}, false
}

func (p *Program) tryNext(w *pair.World, step int) {
	if step%pair.Steps == 0 {
		a := p.aims[step/pair.Steps]
		if a.Way == pair.Arena {
			a.Y = p.number()
		}
		p.try = pair.Begin(a)
	}
	p.try.Step(w)
}

// number is the next one that is drawn; -1: there is none, or who draws fails.
func (p *Program) number() (n int) {
	defer func() {
		if recover() != nil {
			n = -1
		}
	}()
	if p.draw == nil {
		return -1
	}
	n, ok := p.draw()
	if !ok {
		return -1
	}
	return n
}

func (p *Program) rest(w *pair.World, step int) {
	if p.rests {
		return
	}
	if step%2 == 0 {
		p.look(w)
		p.rests = cell.Over(p.seen.state)
		return
	}
	next, err := cell.Promote(p.seen.state)
	if err != nil || !w.Turn(p.cell, p.seen.word, next) {
		return
	}
	p.rests = true
	w.Tell(trace.Event{Kind: trace.Rest, Cell: p.cell, Gen: next.Gen})
}
