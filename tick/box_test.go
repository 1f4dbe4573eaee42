package tick

import (
	"bytes"
	"reflect"
	"slices"
	"testing"

	"compeer/api"
	"compeer/der"
	"compeer/seal"
	"compeer/sym"
)

func providers() []func() api.Provider {
	return []func() api.Provider{
		func() api.Provider { return sym.New() },
		func() api.Provider { return seal.New([]byte("seed")) },
	}
}

// A box has the bytes of Pack, and no other box or key is made for it.
func TestSeal(t *testing.T) {
	for _, c := range written() {
		for _, fresh := range providers() {
			p, q := fresh(), fresh()
			box, e := Seal(p, aKey, api.UseTicket, c.thing)
			if want := q.Seal(aKey, api.UseTicket, c.bytes); e != api.OK || !bytes.Equal(box, want) {
				t.Errorf("%+v: %v, %d", c.thing, box, e)
			}
			if b, ok := p.Open(aKey, api.UseTicket, box); !ok || !bytes.Equal(b, c.bytes) {
				t.Errorf("%+v: %v, %v", c.thing, b, ok)
			}
			if p.Fresh() != q.Fresh() || !bytes.Equal(p.Seal(aKey, 1, nil), q.Seal(aKey, 1, nil)) {
				t.Error("something else was made")
			}
		}
	}
}

func TestSealErrors(t *testing.T) {
	for _, fresh := range providers() {
		p := fresh()
		for _, v := range noThings() {
			if box, e := Seal(p, aKey, 1, v); e != api.ErrArg || len(box) != 0 {
				t.Errorf("%T %+v: %v, %d", v, v, box, e)
			}
		}
		if box, e := Seal(p, aKey, 1, Plain{make([]byte, api.MaxBytes-7)}); e != api.ErrLong || len(box) != 0 {
			t.Errorf("%d bytes, %d", len(box), e)
		}
		if _, e := Seal(p, aKey, 1, Plain{make([]byte, api.MaxBytes-8)}); e != api.OK {
			t.Errorf("%d", e)
		}
	}
	s := sym.New()
	Seal(s, aKey, 1, 5)
	Seal(s, aKey, 1, Plain{make([]byte, 5000)})
	if s.Boxes() != 0 || s.Keys() != 0 {
		t.Error("a box was made of nothing")
	}
}

// opens opens a box as one type.
func opens[T any](t *testing.T, p api.Provider, box []byte, thing any) {
	t.Helper()
	want, is := thing.(T)
	got, e := Open[T](p, aKey, api.UseAp, box)
	if is && (e != api.OK || !reflect.DeepEqual(got, want)) {
		t.Errorf("%+v as %T: %+v, %d", thing, got, got, e)
	}
	var none T
	if !is && (e != api.ErrForm || !reflect.DeepEqual(got, none)) {
		t.Errorf("%+v as %T: %+v, %d", thing, got, got, e)
	}
}

// Each thing in a box is opened as its own type or as any, and as no other.
func TestOpen(t *testing.T) {
	for _, fresh := range providers() {
		p := fresh()
		for _, c := range written() {
			box, e := Seal(p, aKey, api.UseAp, c.thing)
			if e != api.OK {
				t.Fatalf("%+v: %d", c.thing, e)
			}
			opens[Ticket](t, p, box, c.thing)
			opens[Inside](t, p, box, c.thing)
			opens[Reply](t, p, box, c.thing)
			opens[Authent](t, p, box, c.thing)
			opens[Stamp](t, p, box, c.thing)
			opens[Fact](t, p, box, c.thing)
			opens[Plain](t, p, box, c.thing)
			opens[any](t, p, box, c.thing)
			opens[*Stamp](t, p, box, c.thing)
			opens[struct{ Time, Seq int64 }](t, p, box, c.thing)
			opens[int](t, p, box, c.thing)
			opens[[]byte](t, p, box, c.thing)
			opens[error](t, p, box, c.thing)
			opens[interface{ Nothing() }](t, p, box, c.thing)
		}
	}
}

// wrongBox opens a box that gives an error, as three types.
func wrongBox(t *testing.T, p api.Provider, k api.Key, usage int, box []byte, want api.Errno) {
	t.Helper()
	if v, e := Open[Stamp](p, k, usage, box); e != want || v != (Stamp{}) {
		t.Errorf("as a Stamp: %+v, %d", v, e)
	}
	if v, e := Open[Plain](p, k, usage, box); e != want || len(v.Body) != 0 {
		t.Errorf("as a Plain: %+v, %d", v, e)
	}
	if v, e := Open[any](p, k, usage, box); e != want || v != nil {
		t.Errorf("as any: %+v, %d", v, e)
	}
}

func TestOpenErrors(t *testing.T) {
	for _, fresh := range providers() {
		p := fresh()
		box, _ := Seal(p, aKey, api.UseAp, Stamp{1, 2})
		for _, b := range [][]byte{nil, {}, box[:len(box)-1], box[1:], append(slices.Clone(box), 0), make([]byte, 16), make([]byte, 24), make([]byte, 5000)} {
			wrongBox(t, p, aKey, api.UseAp, b, api.ErrSeal)
		}
		wrongBox(t, p, api.Key{}, api.UseAp, box, api.ErrSeal)
		wrongBox(t, p, p.Fresh(), api.UseAp, box, api.ErrSeal)
		for _, usage := range []int{api.UseApRep, api.UsePre, 0, -api.UseAp} {
			wrongBox(t, p, aKey, usage, box, api.ErrSeal)
		}
		wrongBox(t, fresh(), aKey, api.UseAp, append(slices.Clone(box[:len(box)-1]), 77), api.ErrSeal)
		// what is wrong within, in the order in which it is read
		for _, c := range []struct {
			b []byte
			e api.Errno
		}{
			{nil, api.ErrShort}, {row(133), api.ErrShort}, {row(133, 131), api.ErrLength}, {row(159, 0), api.ErrTag}, {row(133, 2, 0, 0), api.ErrForm},
			{row(133, 6, 0, 1, 0, 0, 1, 0, 0), api.ErrMore}, {make([]byte, api.MaxBytes+1), api.ErrLong}, {row(0, 1, 5), api.ErrForm}, {row(133, 3, 0, 1, 0), api.ErrForm}, {row(143, 6, 0, 1, 0, 0, 1, 0), api.ErrForm},
		} {
			wrongBox(t, p, aKey, 3, p.Seal(aKey, 3, c.b), c.e)
		}
		for _, v := range noBytes() {
			b, _ := der.Write(v)
			wrongBox(t, p, aKey, 3, p.Seal(aKey, 3, b), api.ErrForm)
		}
	}
}

// The box of layer 6 has nothing of what is in it, that of layer 7 is a mark.
func TestBoxes(t *testing.T) {
	body := bytes.Repeat([]byte("secret"), 20)
	r := seal.New(nil)
	box, _ := Seal(r, aKey, 1, Plain{body})
	if bytes.Contains(box, body[:6]) || len(box) != 8+len(body)+4+16 {
		t.Errorf("%v", box)
	}
	marked, _ := Seal(sym.New(), aKey, 1, Plain{body})
	if !bytes.Equal(marked, row(255, 254, "b", make([]byte, 12), 1)) {
		t.Errorf("%v", marked)
	}
}

// What was opened is the caller's own, and a box isn't changed by opening it.
func TestOpenSharesNothing(t *testing.T) {
	for _, fresh := range providers() {
		p := fresh()
		body := []byte("abc")
		box, _ := Seal(p, aKey, 1, Plain{body})
		clear(body)
		kept := slices.Clone(box)
		for range 3 {
			v, e := Open[Plain](p, aKey, 1, box)
			if e != api.OK || string(v.Body) != "abc" || !bytes.Equal(box, kept) {
				t.Fatalf("%+v, %d", v, e)
			}
			clear(v.Body)
		}
	}
}
