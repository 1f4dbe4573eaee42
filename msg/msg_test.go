package msg

import (
	"bytes"
	"reflect"
	"slices"
	"testing"

	"compeer/api"
	"compeer/der"
	"compeer/tick"
)

// row is bytes, one after the other: numbers, strings and bytes.
func row(parts ...any) []byte {
	var b []byte
	for _, p := range parts {
		switch x := p.(type) {
		case int:
			b = append(b, byte(x))
		case string:
			b = append(b, x...)
		case []byte:
			b = append(b, x...)
		}
	}
	return b
}

// Two tickets and their bytes by hand, of 12 and of 8.
func large() tick.Ticket { return tick.Ticket{Server: "kdc", Box: []byte{7, 0, 255}} }
func small() tick.Ticket { return tick.Ticket{Server: "я"} }

func largeBytes() []byte { return row(129, 10, 64, 3, "kdc", 64, 3, 7, 0, 255) }
func smallBytes() []byte { return row(129, 6, 64, 2, "я", 64, 0) }

// written is messages, each with its bytes by hand, and for whom it is.
func written() []struct {
	message any
	bytes   []byte
	to      string
} {
	top, t, s := row(0, 6, 1, 0, 0, 0, 0, 0), largeBytes(), smallBytes()
	return []struct {
		message any
		bytes   []byte
		to      string
	}{
		{AsReq{"ann", 5, 256, []byte{9, 8}}, row(139, 16, 64, 3, "ann", 0, 1, 5, 0, 2, 1, 0, 64, 2, 9, 8), "kdc"},
		{AsReq{"b", 0, api.MaxTime, nil}, row(139, 16, 64, 1, "b", 0, 1, 0, top, 64, 0), "kdc"},
		{AsReq{"ána-1", api.MaxTime, 0, nil}, row(139, 21, 64, 6, "ána-1", top, 0, 1, 0, 64, 0), "kdc"},
		{AsRep{"ann", large(), []byte{1}}, row(140, 20, 64, 3, "ann", t, 64, 1, 1), "ann"},
		{AsRep{"я", small(), nil}, row(140, 14, 64, 2, "я", s, 64, 0), "я"},
		{TgsReq{"kdc", 7, 1000, true, false, large(), []byte{1, 2}, nil}, row(141, 36, 64, 3, "kdc", 0, 1, 7, 0, 2, 3, 232, 0, 1, 1, 0, 1, 0, t, 64, 2, 1, 2, 128, 0), "kdc"},
		{TgsReq{"bob", 7, 1000, false, true, large(), nil, []tick.Ticket{small()}}, row(141, 42, 64, 3, "bob", 0, 1, 7, 0, 2, 3, 232, 0, 1, 0, 0, 1, 1, t, 64, 0, 128, 8, s), "kdc"},
		{TgsReq{"bob", 0, 0, true, true, small(), nil, []tick.Ticket{large()}}, row(141, 41, 64, 3, "bob", 0, 1, 0, 0, 1, 0, 0, 1, 1, 0, 1, 1, s, 64, 0, 128, 12, t), "kdc"},
		{TgsReq{"bob", 0, 0, false, false, small(), nil, nil}, row(141, 29, 64, 3, "bob", 0, 1, 0, 0, 1, 0, 0, 1, 0, 0, 1, 0, s, 64, 0, 128, 0), "kdc"},
		{TgsRep{"ann", small(), nil}, row(142, 15, 64, 3, "ann", s, 64, 0), "ann"},
		{TgsRep{"bob", large(), []byte("abc")}, row(142, 22, 64, 3, "bob", t, 64, 3, "abc"), "bob"},
		{Call{"ann", "bob", 1}, row(143, 13, 64, 3, "ann", 64, 3, "bob", 0, 1, 1), "bob"},
		{Call{"ann", "ann", api.MaxTime}, row(143, 18, 64, 3, "ann", 64, 3, "ann", top), "ann"},
		{Card{"bob", "ann", 300, large()}, row(144, 26, 64, 3, "bob", 64, 3, "ann", 0, 2, 1, 44, t), "ann"},
		{ApReq{"ann", "bob", 2, large(), []byte{3}}, row(145, 28, 64, 3, "ann", 64, 3, "bob", 0, 1, 2, t, 64, 1, 3), "bob"},
		{ApRep{"bob", "ann", 2, []byte{4, 5}}, row(146, 17, 64, 3, "bob", 64, 3, "ann", 0, 1, 2, 64, 2, 4, 5), "ann"},
		{Frame{"ann", "bob", 1, 2, 3, []byte{6}}, row(147, 22, 64, 3, "ann", 64, 3, "bob", 0, 1, 1, 0, 1, 2, 0, 1, 3, 64, 1, 6), "bob"},
		{Frame{"ann", "kdc", api.MaxTime, api.MaxTime, api.MaxTime, nil}, row(147, 36, 64, 3, "ann", 64, 3, "kdc", top, top, top, 64, 0), "kdc"},
		{Frame{"ann", "bob", 1, 2, 3, make([]byte, 200)}, row(147, 129, 222, 64, 3, "ann", 64, 3, "bob", 0, 1, 1, 0, 1, 2, 0, 1, 3, 64, 129, 200, make([]byte, 200)), "bob"},
		{DirReq{"bob", 9, 100, true, large(), []byte{1}}, row(148, 29, 64, 3, "bob", 0, 1, 9, 0, 1, 100, 0, 1, 1, t, 64, 1, 1), "kdc"},
		{DirReq{"bob", 9, 100, false, small(), nil}, row(148, 24, 64, 3, "bob", 0, 1, 9, 0, 1, 100, 0, 1, 0, s, 64, 0), "kdc"},
		{DirRep{"ann", []byte{2}}, row(149, 8, 64, 3, "ann", 64, 1, 2), "ann"},
		{DirRep{"ann", nil}, row(149, 7, 64, 3, "ann", 64, 0), "ann"},
		{Fail{"ann", 7, 9}, row(150, 11, 64, 3, "ann", 0, 1, 7, 0, 1, 9), "ann"},
		{Fail{"kdc", 0, 0}, row(150, 11, 64, 3, "kdc", 0, 1, 0, 0, 1, 0), "kdc"},
	}
}

// Each message has these bytes, and these bytes are that message.
func TestWritten(t *testing.T) {
	types := map[reflect.Type]bool{}
	for _, c := range written() {
		types[reflect.TypeOf(c.message)] = true
		b, e := Write(c.message)
		if e != api.OK || !bytes.Equal(b, c.bytes) {
			t.Errorf("%+v: %v, %d", c.message, b, e)
		}
		message, e := Read(c.bytes)
		if e != api.OK || !reflect.DeepEqual(message, c.message) {
			t.Errorf("%v: %+v, %d", c.bytes, message, e)
		}
		v, ok := Value(c.message)
		want, _ := der.Read(c.bytes)
		if !ok || !der.Same(v, want) || !der.Right(v) {
			t.Errorf("%+v: %+v, %v", c.message, v, ok)
		}
		if message, ok := Of(want); !ok || !reflect.DeepEqual(message, c.message) {
			t.Errorf("%+v: %+v, %v", want, message, ok)
		}
		if to := To(c.message); to != c.to {
			t.Errorf("%+v is for %q", c.message, to)
		}
	}
	if len(types) != 12 {
		t.Errorf("%d types", len(types))
	}
}

func TestExample(t *testing.T) {
	for _, sid := range []int64{0, 1, 127, 128, 255} {
		b, e := Write(Call{From: "ann", To: "bob", Sid: sid})
		if e != api.OK || len(b) != 15 || b[0] != 143 {
			t.Errorf("%v, %d", b, e)
		}
	}
	if Kdc != "kdc" {
		t.Errorf("%q", Kdc)
	}
}

// Bytes that are nil, and tickets that are, are the same as empty ones.
func TestNilAndEmpty(t *testing.T) {
	none := []byte{}
	for _, c := range [][2]any{
		{AsReq{Client: "ann"}, AsReq{Client: "ann", Pre: none}},
		{AsRep{"ann", small(), nil}, AsRep{"ann", tick.Ticket{Server: "я", Box: none}, none}},
		{TgsReq{Server: "bob", Ticket: small()}, TgsReq{Server: "bob", Ticket: small(), Auth: none, Extra: []tick.Ticket{}}},
		{DirRep{Client: "ann"}, DirRep{Client: "ann", Box: none}},
	} {
		a, e := Write(c[0])
		b, f := Write(c[1])
		if e != api.OK || f != api.OK || !bytes.Equal(a, b) {
			t.Errorf("%v, %d; %v, %d", a, e, b, f)
		}
	}
}

// For whom a message is stands in it, be it right or not.
func TestTo(t *testing.T) {
	for _, s := range []string{"", "ann", "kdc", "Ann", "\xff", "a b"} {
		for _, v := range []any{AsRep{Client: s}, TgsRep{Client: s}, DirRep{Client: s}, Call{From: "x", To: s}, Card{From: "x", To: s}, ApReq{From: "x", To: s}, ApRep{From: "x", To: s}, Frame{From: "x", To: s}, Fail{To: s}, Frame{From: "x", To: s, Seq: -1}, Call{To: s, Sid: -1}} {
			if to := To(v); to != s {
				t.Errorf("%T: %q, not %q", v, to, s)
			}
		}
		for _, v := range []any{AsReq{Client: s}, TgsReq{Server: s}, DirReq{Name: s}, AsReq{Client: s, Nonce: -1}, TgsReq{Server: s, Extra: make([]tick.Ticket, 3)}} {
			if to := To(v); to != "kdc" {
				t.Errorf("%T: %q", v, to)
			}
		}
	}
	for _, v := range notMessages() {
		if to := To(v); to != "" {
			t.Errorf("%T: %q", v, to)
		}
	}
}

// fill puts a number into all bytes that a value reaches.
func fill(v der.Value, n byte) {
	for i := range v.B {
		v.B[i] = n
	}
	for i := range v.L {
		fill(v.L[i], n)
	}
}

// A message's value and bytes share nothing with it, nor does a message with what it was read from, and neither is changed.
func TestNothingIsShared(t *testing.T) {
	for _, c := range written() {
		v, _ := Value(c.message)
		fill(v, 77)
		b, _ := Write(c.message)
		clear(b)
		for _, x := range written() { // has the same messages, newly made
			if bytes.Equal(x.bytes, c.bytes) && !reflect.DeepEqual(x.message, c.message) {
				t.Errorf("%+v is now %+v", x.message, c.message)
			}
		}
		b = slices.Clone(c.bytes)
		read, _ := Read(b)
		if !bytes.Equal(b, c.bytes) {
			t.Errorf("%v is now %v", c.bytes, b)
		}
		clear(b)
		v, _ = der.Read(c.bytes)
		of, _ := Of(v)
		if again, _ := der.Read(c.bytes); !der.Same(v, again) {
			t.Errorf("%+v is now %+v", again, v)
		}
		fill(v, 77)
		if !reflect.DeepEqual(read, c.message) || !reflect.DeepEqual(of, c.message) {
			t.Errorf("%+v: %+v, %+v", c.message, read, of)
		}
	}
}

// Who changes a message's tickets and bytes changes neither its value nor another message of the same value.
func TestOwnMessages(t *testing.T) {
	extra := []tick.Ticket{large()}
	q := TgsReq{Server: "bob", Ticket: large(), Auth: []byte{1}, Extra: extra}
	want, _ := Write(q)
	v, _ := Value(q)
	a, _ := Of(v)
	b, _ := Of(v)
	for _, m := range []TgsReq{q, a.(TgsReq)} {
		clear(m.Ticket.Box)
		clear(m.Auth)
		clear(m.Extra[0].Box)
		m.Extra[0].Server = "ann"
	}
	got, e := der.Write(v)
	again, f := Write(b)
	if e != api.OK || f != api.OK || !bytes.Equal(got, want) || !bytes.Equal(again, want) {
		t.Errorf("%v, %d; %v, %d; not %v", got, e, again, f, want)
	}
	if extra[0].Server != "ann" {
		t.Error("this test changed nothing")
	}
}
