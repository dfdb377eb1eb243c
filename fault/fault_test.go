package fault_test

import (
	"errors"
	"slices"
	"testing"

	"gloaming/api"
	"gloaming/fault"
)

// P1.1
func TestWrapping(t *testing.T) {
	if fault.At(3, nil) != nil || fault.With("x", nil) != nil || fault.All() != nil || fault.All(nil, nil) != nil || fault.First() != nil || fault.First(nil, nil) != nil {
		t.Error("something of nothing")
	}
	e := fault.At(3, api.ErrBusy)
	f, ok := e.(*fault.Fault)
	if !ok || f.At != 3 || f.Err != api.ErrBusy || f.Unwrap() != api.ErrBusy {
		t.Error("At", e)
	}
	n, ok := fault.With("cell", e).(*fault.Note)
	if !ok || n.Word != "cell" || n.Err != e || n.Unwrap() != e {
		t.Error("With", n)
	}
	if fault.First(nil, e, api.ErrFull) != e {
		t.Error("First")
	}
	if (*fault.Fault)(nil).Unwrap() != nil || (*fault.Note)(nil).Unwrap() != nil || (&fault.Fault{}).Unwrap() != nil {
		t.Error("Unwrap of none")
	}
}

// P1.1: several at once unwrap to each, in order, and keep nothing of what was handed in.
func TestSeveral(t *testing.T) {
	given := []error{nil, api.ErrQty, nil, fault.At(1, api.ErrBusy)}
	e := fault.All(given...)
	given[1] = api.ErrFull
	u, ok := e.(interface{ Unwrap() []error })
	if !ok || len(u.Unwrap()) != 2 || u.Unwrap()[0] != api.ErrQty || fault.Code(u.Unwrap()[1]) != api.ErrBusy {
		t.Fatal(e)
	}
	if !errors.Is(e, api.ErrQty) || !errors.Is(e, api.ErrBusy) || errors.Is(e, api.ErrFull) {
		t.Error("within", e)
	}
	if e.Error() == "" {
		t.Error("no text")
	}
}

// P1.2
func TestAsking(t *testing.T) {
	e := fault.With("out", fault.At(-7, fault.With("in", api.ErrLate)))
	both := fault.All(fault.At(2, errors.New("other")), e, api.ErrQty)
	tests := []struct {
		err   error
		code  api.Code
		at    int
		ok    bool
		words []string
	}{
		{nil, 0, 0, false, nil},
		{api.ErrGone, api.ErrGone, 0, false, nil},
		{errors.New("other"), 0, 0, false, nil},
		{fault.At(9, errors.New("other")), 0, 9, true, nil},
		{e, api.ErrLate, -7, true, []string{"out", "in"}},
		{fault.At(1, fault.At(2, api.ErrArg)), api.ErrArg, 1, true, nil},
		{both, api.ErrLate, 2, true, []string{"out", "in"}},
	}
	for i, x := range tests {
		at, ok := fault.Place(x.err)
		if fault.Code(x.err) != x.code || at != x.at || ok != x.ok || !slices.Equal(fault.Words(x.err), x.words) {
			t.Error(i, x.err, fault.Code(x.err), at, ok, fault.Words(x.err))
		}
	}
	if !fault.Has(both, api.ErrQty) || !fault.Has(both, api.ErrLate) || fault.Has(both, api.ErrArg) || fault.Has(nil, 0) || fault.Has(errors.New("x"), 0) {
		t.Error("Has")
	}
}

// P1.3
func TestTexts(t *testing.T) {
	tests := []struct {
		err  error
		want string
	}{
		{fault.At(3, api.ErrBusy), "at 3: code 27"},
		{fault.At(-3, errors.New("x y")), "at -3: x y"},
		{fault.With("cell", fault.At(0, api.ErrArg)), "cell: at 0: code 1"},
		{fault.At(1, fault.With("", api.Code(-1))), "at 1: : code ?"},
		{(*fault.Fault)(nil), "no fault"},
		{&fault.Fault{At: 4}, "no fault"},
		{(*fault.Note)(nil), "no note"},
		{&fault.Note{Word: "w"}, "no note"},
		{fault.At(2, (*fault.Note)(nil)), "at 2: no note"},
		{fault.With("w", &fault.Fault{}), "w: no fault"},
	}
	for _, x := range tests {
		if s := x.err.Error(); s != x.want {
			t.Errorf("%q, not %q", s, x.want)
		}
	}
	names := map[api.Code]string{10: "word", 11: "short", 12: "more", 13: "num", 14: "long", 15: "byte", 20: "ident", 21: "cell", 22: "name", 23: "qty", 24: "price", 25: "least", 26: "late", 27: "busy", 28: "full", 29: "gone"}
	for c := api.Code(-2); c < 40; c++ {
		want := names[c]
		if want == "" {
			want = "other"
		}
		if fault.Name(c) != want {
			t.Error(c, fault.Name(c))
		}
	}
}

// P1.4: as deep as the document's bound has it.
func TestDeep(t *testing.T) {
	var e error = api.ErrShort
	for i := range 1 << 16 {
		switch i % 3 {
		case 0:
			e = fault.At(i, e)
		case 1:
			e = fault.With("w", e)
		default:
			e = fault.All(nil, e)
		}
	}
	if fault.Code(e) != api.ErrShort || !fault.Has(e, api.ErrShort) || fault.Has(e, api.ErrMore) {
		t.Error("code", fault.Code(e))
	}
	if n := len(fault.Words(e)); n != 1<<16/3 {
		t.Error("words", n)
	}
}

// R1: of nil faults and notes, bare and wrapped, nothing panics.
func TestNil(t *testing.T) {
	for _, e := range []error{(*fault.Fault)(nil), (*fault.Note)(nil), &fault.Fault{}, &fault.Note{}} {
		for _, x := range []error{e, fault.At(1, e), fault.With("w", e), fault.All(e, e)} {
			fault.Place(x)
			fault.Words(x)
			if x.Error() == "" || fault.Code(x) != 0 || fault.Has(x, api.ErrArg) {
				t.Error(x)
			}
		}
	}
}
