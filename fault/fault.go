// Package fault is layer 1: see shared/doc/01-fault.md.
package fault

import (
	"errors"
	"slices"
	"strconv"
	"strings"

	"gloaming/api"
)

// Fault is an error at a place.
type Fault struct {
	At  int
	Err error
}

// Error is the place, and the error.
func (f *Fault) Error() string { return text(f) }

// Unwrap is what is wrong there.
func (f *Fault) Unwrap() error {
	if f == nil {
		return nil
	}
	return f.Err
}

// At is an error at a place; of none none.
func At(at int, err error) error {
	if err == nil {
		return nil
	}
	return &Fault{At: at, Err: err}
}

// Note is an error with a word ahead of it.
type Note struct {
	Word string
	Err  error
}

// Error is the word, and the error.
func (n *Note) Error() string { return text(n) }

// Unwrap is what the word stands ahead of.
func (n *Note) Unwrap() error {
	if n == nil {
		return nil
	}
	return n.Err
}

// With is an error with a word ahead of it; of none none.
func With(word string, err error) error {
	if err == nil {
		return nil
	}
	return &Note{Word: word, Err: err}
}

// several are errors at once.
type several struct{ errs []error }

func (s *several) Error() string { return text(s) }

func (s *several) Unwrap() []error { return slices.Clone(s.errs) }

// All are several errors as one; those that are none are left out, and of none there is none.
func All(errs ...error) error {
	var l []error
	for _, e := range errs {
		if e != nil {
			l = append(l, e)
		}
	}
	if len(l) == 0 {
		return nil
	}
	return &several{l}
}

// First is the first one that is an error.
func First(errs ...error) error {
	for _, e := range errs {
		if e != nil {
			return e
		}
	}
	return nil
}

// Code is an error's code: the first one within it; 0: there is none.
func Code(err error) (c api.Code) {
	defer func() {
		if recover() != nil { // errors of others may fail as they are asked
			c = 0
		}
	}()
	errors.As(err, &c)
	return c
}

// Has says whether a code is within an error.
func Has(err error, c api.Code) (has bool) {
	defer func() {
		if recover() != nil {
			has = false
		}
	}()
	return errors.Is(err, c)
}

// Place is where an error is; false: it has no place.
func Place(err error) (at int, ok bool) {
	defer func() {
		if recover() != nil {
			at, ok = 0, false
		}
	}()
	var f *Fault
	if !errors.As(err, &f) || f == nil { // a nil Fault is found, but has no place
		return 0, false
	}
	return f.At, true
}

// Words are the words ahead of an error, the outermost first.
func Words(err error) (l []string) {
	defer func() {
		if recover() != nil {
			l = nil
		}
	}()
	for n := note(err); n != nil; n = note(n.Err) {
		l = append(l, n.Word)
	}
	return l
}

func note(err error) *Note {
	var n *Note
	errors.As(err, &n)
	return n
}

// text is written in one go from the outside in: if each error built its own, a long row of them would take the square of its length.
func text(err error) string {
	var b strings.Builder
	write(&b, err)
	return b.String()
}

func write(b *strings.Builder, err error) {
	switch x := err.(type) {
	case *Fault:
		if x == nil || x.Err == nil {
			b.WriteString("no fault")
			return
		}
		b.WriteString("at " + strconv.Itoa(x.At) + ": ")
		write(b, x.Err)
	case *Note:
		if x == nil || x.Err == nil {
			b.WriteString("no note")
			return
		}
		b.WriteString(x.Word + ": ")
		write(b, x.Err)
	case *several:
		for i, e := range x.errs {
			if i > 0 {
				b.WriteByte('\n')
			}
			write(b, e)
		}
	default:
		b.WriteString(told(err))
	}
}

// told is the text of an error of others, which may fail as it is asked.
func told(err error) (s string) {
	defer func() {
		if recover() != nil {
			s = ""
		}
	}()
	return err.Error()
}

// Name is what a code is called.
func Name(c api.Code) string {
	switch c {
	case api.ErrWord:
		return "word"
	case api.ErrShort:
		return "short"
	case api.ErrMore:
		return "more"
	case api.ErrNum:
		return "num"
	case api.ErrLong:
		return "long"
	case api.ErrByte:
		return "byte"
	case api.ErrIdent:
		return "ident"
	case api.ErrCell:
		return "cell"
	case api.ErrName:
		return "name"
	case api.ErrQty:
		return "qty"
	case api.ErrPrice:
		return "price"
	case api.ErrLeast:
		return "least"
	case api.ErrLate:
		return "late"
	case api.ErrBusy:
		return "busy"
	case api.ErrFull:
		return "full"
	case api.ErrGone:
		return "gone"
	}
	return "other"
}
