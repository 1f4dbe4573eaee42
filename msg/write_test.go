package msg

import (
	"bytes"
	"math"
	"reflect"
	"strings"
	"testing"

	"compeer/api"
	"compeer/der"
	"compeer/tick"
)

// notMessages is what is of no type of a message.
func notMessages() []any {
	type ownCall Call
	type more struct{ Call }
	return []any{
		nil, 5, int64(5), "kdc", "ann", []byte("abc"), api.Key{}, true, der.Num(5), der.Seq(15, der.Raw([]byte("ann")), der.Raw([]byte("bob")), der.Num(1)), struct{}{}, []any{Fail{To: "ann"}}, []Call{{"ann", "bob", 1}}, [1]Call{{"ann", "bob", 1}}, func() {}, api.OK,
		large(), small(), []tick.Ticket{small()}, tick.Inside{Client: "ann"}, tick.Reply{Server: "kdc"}, tick.Authent{Client: "ann"}, tick.Stamp{}, tick.Fact{Name: "ann"}, tick.Plain{},
		&AsReq{Client: "ann"}, &AsRep{Client: "ann", Ticket: small()}, &TgsReq{Server: "bob", Ticket: small()}, &TgsRep{Client: "ann", Ticket: small()}, &Call{"ann", "bob", 1}, &Card{"ann", "bob", 1, small()},
		&ApReq{From: "ann", To: "bob", Ticket: small()}, &ApRep{From: "ann", To: "bob"}, &Frame{From: "ann", To: "bob"}, &DirReq{Name: "ann", Ticket: small()}, &DirRep{Client: "ann"}, &Fail{To: "ann"},
		(*AsReq)(nil), (*Call)(nil), (*Fail)(nil), (*TgsReq)(nil), (*tick.Ticket)(nil),
		ownCall{"ann", "bob", 1}, more{Call{"ann", "bob", 1}}, struct {
			From, To string
			Sid      int64
		}{"ann", "bob", 1},
	}
}

// noValue tells if a thing has a value.
func noValue(t *testing.T, v any) {
	t.Helper()
	if value, ok := Value(v); ok || !der.Same(value, der.Value{}) {
		t.Errorf("%T %+v: %+v, %v", v, v, value, ok)
	}
	if b, e := Write(v); e != api.ErrArg || len(b) != 0 {
		t.Errorf("%T %+v: %v, %d", v, v, b, e)
	}
}

// thereAndBack tells if a message is lost on the way.
func thereAndBack(t *testing.T, v any) {
	t.Helper()
	b, e := Write(v)
	message, f := Read(b)
	if e != api.OK || f != api.OK || !reflect.DeepEqual(message, v) {
		t.Errorf("%T %+v: %d; %+v, %d", v, v, e, message, f)
	}
}

func TestNoMessage(t *testing.T) {
	for _, v := range notMessages() {
		noValue(t, v)
	}
}

func wrongNames() []string {
	return []string{"", "1a", "-", "-a", "Ann", "a b", "ann\n", "\xff", "a\uFFFD", "a_", "÷", "ς", "abcdefghijklmnopq", strings.Repeat("é", 17), strings.Repeat("a", 5000)}
}

func rightNames() []string {
	return []string{"a", "kdc", "ána-1", "a-", "þ9", "abcdefghijklmnop", strings.Repeat("é", 16)}
}

func wrongNumbers() []int64 {
	return []int64{-1, api.MaxTime + 1, math.MinInt64, math.MaxInt64, 1 << 41, 1 << 62, -api.MaxTime}
}

func rightNumbers() []int64 {
	return []int64{0, 1, 127, 128, 255, 256, 1 << 32, api.MaxTime - 1, api.MaxTime}
}

// choices is what a field of a type may hold, and what it may not.
func choices(of reflect.Type) (right, wrong []any) {
	var tickets, bad []any
	for _, s := range rightNames() {
		tickets = append(tickets, tick.Ticket{Server: s, Box: []byte(s)})
	}
	for _, s := range wrongNames() {
		bad = append(bad, tick.Ticket{Server: s}, tick.Ticket{Server: s, Box: []byte("abc")})
	}
	switch of {
	case reflect.TypeFor[string]():
		return anys(rightNames()), anys(wrongNames())
	case reflect.TypeFor[int64]():
		return anys(rightNumbers()), anys(wrongNumbers())
	case reflect.TypeFor[bool]():
		return []any{false, true}, nil
	case reflect.TypeFor[[]byte]():
		return []any{[]byte(nil), []byte{0}, []byte("abc"), make([]byte, 127), make([]byte, 128), make([]byte, 300)}, nil
	case reflect.TypeFor[tick.Ticket]():
		return tickets, bad
	}
	var rows, badRows []any
	for _, x := range tickets {
		rows = append(rows, []tick.Ticket{x.(tick.Ticket)})
		badRows = append(badRows, []tick.Ticket{x.(tick.Ticket), x.(tick.Ticket)}, make([]tick.Ticket, 2), []tick.Ticket{small(), large(), small()})
	}
	for _, x := range bad {
		badRows = append(badRows, []tick.Ticket{x.(tick.Ticket)}, []tick.Ticket{small(), x.(tick.Ticket)})
	}
	return append(rows, []tick.Ticket(nil)), badRows
}

func anys[T any](list []T) []any {
	var out []any
	for _, x := range list {
		out = append(out, x)
	}
	return out
}

// Each field of each message, with all that it may hold and with all that it may not.
func TestEachField(t *testing.T) {
	for _, c := range written() {
		of := reflect.TypeOf(c.message)
		for i := range of.NumField() {
			changed := func(x any) any {
				v := reflect.New(of).Elem()
				v.Set(reflect.ValueOf(c.message))
				v.Field(i).Set(reflect.ValueOf(x))
				return v.Interface()
			}
			right, wrong := choices(of.Field(i).Type)
			for _, x := range right {
				thereAndBack(t, changed(x))
			}
			for _, x := range wrong {
				noValue(t, changed(x))
			}
		}
	}
}

// What is empty has no names.
func TestEmptyMessages(t *testing.T) {
	for _, v := range []any{AsReq{}, AsRep{}, TgsReq{}, TgsRep{}, Call{}, Card{}, ApReq{}, ApRep{}, Frame{}, DirReq{}, DirRep{}, Fail{}} {
		noValue(t, v)
	}
}

// The bytes may be as many as fit into 4096 with all else, and not one more; what isn't right is told ahead of that.
func TestWriteLong(t *testing.T) {
	for _, c := range []struct {
		longest int
		message func(b []byte) any
	}{
		{api.MaxBytes - 4 - 5 - 3 - 3 - 4, func(b []byte) any { return AsReq{Client: "ann", Pre: b} }},
		{api.MaxBytes - 4 - 5 - 8 - 4, func(b []byte) any { return AsRep{"ann", small(), b} }},
		{api.MaxBytes - 4 - 5 - 2 - 4 - 5 - 4, func(b []byte) any { return TgsRep{"ann", tick.Ticket{Server: "bob", Box: b}, nil} }},
		{api.MaxBytes - 4 - 5 - 12 - 8 - 2 - 4, func(b []byte) any { return TgsReq{Server: "bob", Ticket: small(), Auth: b} }},
		{api.MaxBytes - 4 - 5 - 12 - 8 - 2 - 4 - 4 - 4 - 5, func(b []byte) any {
			return TgsReq{Server: "bob", Ticket: small(), Extra: []tick.Ticket{{Server: "ann", Box: b}}}
		}},
		{api.MaxBytes - 4 - 10 - 3 - 4 - 4 - 4, func(b []byte) any { return Card{"ann", "bob", 1, tick.Ticket{Server: "bb", Box: b}} }},
		{api.MaxBytes - 4 - 10 - 9 - 4, func(b []byte) any { return Frame{"ann", "bob", 1, 2, 3, b} }},
		{api.MaxBytes - 4 - 5 - 4, func(b []byte) any { return DirRep{"ann", b} }},
	} {
		b, e := Write(c.message(make([]byte, c.longest)))
		if len(b) != api.MaxBytes || e != api.OK {
			t.Errorf("%T: %d bytes, %d", c.message(nil), len(b), e)
		}
		if message, e := Read(b); e != api.OK || !reflect.DeepEqual(message, c.message(make([]byte, c.longest))) {
			t.Errorf("%T: %d", message, e)
		}
		for _, more := range []int{1, 2, 100, 100000} {
			v := c.message(make([]byte, c.longest+more))
			if b, e := Write(v); len(b) != 0 || e != api.ErrLong {
				t.Errorf("%T: %d bytes, %d", v, len(b), e)
			}
			if value, ok := Value(v); !ok || !der.Right(value) {
				t.Errorf("%T has no value", v)
			}
		}
	}
	for _, v := range []any{AsReq{Client: "Ann", Pre: make([]byte, 5000)}, Frame{"ann", "bob", -1, 0, 0, make([]byte, 5000)}, AsRep{"ann", tick.Ticket{}, make([]byte, 5000)}, TgsReq{Server: "bob", Ticket: small(), Auth: make([]byte, 5000), Extra: []tick.Ticket{small(), small()}}} {
		noValue(t, v)
	}
}

// No two messages have the same bytes.
func TestAllDifferent(t *testing.T) {
	for i, a := range written() {
		for j, b := range written() {
			if x, _ := Write(a.message); bytes.Equal(x, b.bytes) != (i == j) {
				t.Errorf("%+v and %+v", a.message, b.message)
			}
		}
	}
}
