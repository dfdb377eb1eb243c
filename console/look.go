package console

import (
	"strconv"

	"gloaming/audit"
	"gloaming/book"
	"gloaming/ceiling"
	"gloaming/points"
	"gloaming/redact"
	"gloaming/report"
	"gloaming/shrink"
)

// look answers what changes nothing.
func (c *Console) look(verb string, n []int) ([]string, error) {
	p := c.gate.Pool()
	switch verb {
	case "cells":
		return report.Cells(p), nil
	case "log":
		return report.Log(p), nil
	case "rows":
		return report.Rows(p)
	case "numbers":
		return []string{report.Numbers(p)}, nil
	case "health":
		return []string{report.Health(p)}, nil
	case "book":
		return report.Book(p, n[0]), nil
	case "flaws":
		return count(len(audit.Check(p.R, audit.Of(p)))), nil
	case "ceiling":
		return count(ceiling.All(p.R, book.Of(p))), nil
	case "told":
		return c.gate.To(n[0]), nil
	case "late":
		return c.late()
	case "bare":
		return c.bare(n[0])
	case "shrink":
		return c.shrink(n[0]), nil
	}
	return c.events(), nil
}

// count is a number as a line.
func count(n int) []string { return []string{strconv.Itoa(n)} }

// of is how many events of the script are left, as a line.
func (c *Console) of(n int) []string {
	return []string{strconv.Itoa(n) + " of " + strconv.Itoa(len(c.script))}
}

func (c *Console) events() []string {
	var l []string
	for _, e := range c.gate.Pool().Events() {
		l = append(l, report.Event(e))
	}
	return l
}

func (c *Console) late() ([]string, error) {
	l, err := points.Late(c.gate.Pool().R.Config, len(c.script)+1, c.script...)
	if err != nil {
		return nil, err
	}
	return count(len(l)), nil
}

func (c *Console) bare(part int) ([]string, error) {
	r, err := redact.New(c.gate.Pool().R.Config, c.script...)
	if err != nil {
		return nil, err
	}
	return c.of(len(r.Bare(part))), nil
}

func (c *Console) shrink(fills int) []string {
	l, ok := shrink.Script(c.script, shrink.Fills(c.gate.Pool().R.Config, fills))
	if !ok {
		return []string{"none"}
	}
	return c.of(len(l))
}
