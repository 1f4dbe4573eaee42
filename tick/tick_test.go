package tick

import (
	"bytes"
	"math"
	"reflect"
	"slices"
	"strings"
	"testing"

	"compeer/api"
	"compeer/der"
)

var aKey = api.Key{1, 2, 3, 4, 5, 6, 7, 8, 9, 10, 11, 12, 13, 14, 15, 16}

// row is bytes, one after the other: numbers, strings and bytes.
func row(parts ...any) []byte {
	var b []byte
	for _, p := range parts {
		switch x := p.(type) {
		case int:
			b = append(b, byte(x))
		case string:
			b = append(b, x...)
		case []byte:
			b = append(b, x...)
		}
	}
	return b
}

// written is things, each with its bytes by hand.
func written() []struct {
	thing any
	bytes []byte
} {
	top := row(0, 6, 1, 0, 0, 0, 0, 0)
	return []struct {
		thing any
		bytes []byte
	}{
		{Stamp{5, 256}, row(133, 7, 0, 1, 5, 0, 2, 1, 0)},
		{Stamp{}, row(133, 6, 0, 1, 0, 0, 1, 0)},
		{Stamp{api.MaxTime, api.MaxTime}, row(133, 16, top, top)},
		{Ticket{"kdc", []byte{7, 0, 255}}, row(129, 10, 64, 3, "kdc", 64, 3, 7, 0, 255)},
		{Ticket{"ána-1", nil}, row(129, 10, 64, 6, "ána-1", 64, 0)},
		{Inside{Renewable | First, aKey, "ann", 100, 160, 4100}, row(130, 36, 0, 1, 5, 64, 16, aKey[:], 64, 3, "ann", 0, 1, 100, 0, 1, 160, 0, 2, 16, 4)},
		{Inside{Mesh, aKey, "b", 1, 2, 3}, row(130, 33, 0, 1, 2, 64, 16, aKey[:], 64, 1, "b", 0, 1, 1, 0, 1, 2, 0, 1, 3)},
		{Inside{0, api.Key{}, "bob", 0, 0, 0}, row(130, 35, 0, 1, 0, 64, 16, make([]byte, 16), 64, 3, "bob", 0, 1, 0, 0, 1, 0, 0, 1, 0)},
		{Inside{api.MaxTime, aKey, "b", api.MaxTime, api.MaxTime, api.MaxTime}, row(130, 53, top, 64, 16, aKey[:], 64, 1, "b", top, top, top)},
		{Reply{First, aKey, 300, "kdc", 1, 2, 3}, row(131, 39, 0, 1, 4, 64, 16, aKey[:], 0, 2, 1, 44, 64, 3, "kdc", 0, 1, 1, 0, 1, 2, 0, 1, 3)},
		{Authent{"ann", 20, 1, aKey, []byte{9, 8}}, row(132, 33, 64, 3, "ann", 0, 1, 20, 0, 1, 1, 64, 16, aKey[:], 64, 2, 9, 8)},
		{Authent{"я", 20, 1, api.Key{}, nil}, row(132, 30, 64, 2, "я", 0, 1, 20, 0, 1, 1, 64, 16, make([]byte, 16), 64, 0)},
		{Fact{7, "bob", true, 160}, row(134, 14, 0, 1, 7, 64, 3, "bob", 0, 1, 1, 0, 1, 160)},
		{Fact{7, "bob", false, 0}, row(134, 14, 0, 1, 7, 64, 3, "bob", 0, 1, 0, 0, 1, 0)},
		{Plain{nil}, row(135, 2, 64, 0)},
		{Plain{[]byte("abc")}, row(135, 5, 64, 3, "abc")},
		{Plain{make([]byte, 200)}, row(135, 129, 203, 64, 129, 200, make([]byte, 200))},
	}
}

func TestFlags(t *testing.T) {
	if Renewable != 1 || Mesh != 2 || First != 4 {
		t.Error("flags")
	}
}

// Each thing has these bytes, and these bytes are that thing.
func TestWritten(t *testing.T) {
	for _, c := range written() {
		b, e := Pack(c.thing)
		if e != api.OK || !bytes.Equal(b, c.bytes) {
			t.Errorf("%+v: %v, %d", c.thing, b, e)
		}
		thing, e := Unpack(c.bytes)
		if e != api.OK || !reflect.DeepEqual(thing, c.thing) {
			t.Errorf("%v: %+v, %d", c.bytes, thing, e)
		}
		v, ok := Value(c.thing)
		want, _ := der.Read(c.bytes)
		if !ok || !der.Same(v, want) || !der.Right(v) {
			t.Errorf("%+v: %+v, %v", c.thing, v, ok)
		}
		if thing, ok := Of(want); !ok || !reflect.DeepEqual(thing, c.thing) {
			t.Errorf("%+v: %+v, %v", want, thing, ok)
		}
	}
}

// noThings is what has no value.
func noThings() []any {
	type ownStamp Stamp
	type more struct{ Stamp }
	list := []any{
		nil, 5, int64(5), "ann", []byte("abc"), aKey, true, der.Num(5), der.Seq(5, der.Num(1), der.Num(2)), struct{}{}, []any{Stamp{}}, []Stamp{{}}, [1]Stamp{}, func() {},
		&Ticket{"kdc", nil}, &Inside{Client: "ann"}, &Reply{Server: "kdc"}, &Authent{Client: "ann"}, &Stamp{}, &Fact{Name: "ann"}, &Plain{}, (*Stamp)(nil), (*Plain)(nil),
		ownStamp{}, more{}, struct{ Time, Seq int64 }{}, struct{ Body []byte }{},
	}
	for _, s := range []string{"", "1a", "-", "Ann", "a b", "ann\n", "\xff", "a\uFFFD", "abcdefghijklmnopq", strings.Repeat("a", 5000)} {
		list = append(list, Ticket{Server: s}, Inside{Client: s}, Reply{Server: s}, Authent{Client: s}, Fact{Name: s})
	}
	for _, n := range []int64{-1, api.MaxTime + 1, math.MinInt64, math.MaxInt64, 1 << 41, 1 << 62, -api.MaxTime} {
		list = append(list, Stamp{Time: n}, Stamp{Seq: n}, Authent{Client: "ann", Time: n}, Authent{Client: "ann", Seq: n}, Fact{Name: "ann", Nonce: n}, Fact{Name: "ann", Till: n},
			Inside{Client: "ann", Flags: int(n)}, Inside{Client: "ann", Auth: n}, Inside{Client: "ann", End: n}, Inside{Client: "ann", Renew: n},
			Reply{Server: "kdc", Flags: int(n)}, Reply{Server: "kdc", Nonce: n}, Reply{Server: "kdc", Auth: n}, Reply{Server: "kdc", End: n}, Reply{Server: "kdc", Renew: n})
	}
	return list
}

func TestNoValue(t *testing.T) {
	for _, v := range noThings() {
		if value, ok := Value(v); ok || !der.Same(value, der.Value{}) {
			t.Errorf("%T %+v: %+v, %v", v, v, value, ok)
		}
		if b, e := Pack(v); e != api.ErrArg || len(b) != 0 {
			t.Errorf("%T %+v: %v, %d", v, v, b, e)
		}
	}
	// a wrong name is told ahead of too many bytes
	if b, e := Pack(Ticket{"Kdc", make([]byte, 5000)}); e != api.ErrArg || len(b) != 0 {
		t.Errorf("%v, %d", b, e)
	}
}

func TestPackLong(t *testing.T) {
	for _, c := range []struct {
		longest int
		thing   func(b []byte) any
	}{
		{api.MaxBytes - 8, func(b []byte) any { return Plain{b} }},
		{api.MaxBytes - 13, func(b []byte) any { return Ticket{"kdc", b} }},
		{api.MaxBytes - 37, func(b []byte) any { return Authent{Client: "ann", Sum: b} }},
	} {
		b, e := Pack(c.thing(make([]byte, c.longest)))
		if len(b) != api.MaxBytes || e != api.OK {
			t.Errorf("%T: %d bytes, %d", c.thing(nil), len(b), e)
		}
		if thing, e := Unpack(b); e != api.OK || !reflect.DeepEqual(thing, c.thing(make([]byte, c.longest))) {
			t.Errorf("%T: %d", thing, e)
		}
		for _, more := range []int{1, 2, 100, 100000} {
			b, e := Pack(c.thing(make([]byte, c.longest+more)))
			if len(b) != 0 || e != api.ErrLong {
				t.Errorf("%T: %d bytes, %d", c.thing(nil), len(b), e)
			}
			if v, ok := Value(c.thing(make([]byte, c.longest+more))); !ok || !der.Right(v) {
				t.Errorf("%T has no value", c.thing(nil))
			}
		}
	}
}

// noBytes is lists that stand for nothing.
func noBytes() []der.Value {
	num, raw, key, ann, big := der.Num(1), der.Raw(nil), der.Raw(aKey[:]), der.Raw([]byte("ann")), der.Num(api.MaxTime+1)
	tagged := der.Value{Kind: der.Int, Tag: 1, N: 1}
	list := []der.Value{
		num, raw, ann, {Kind: der.Int, Tag: 5, N: 1}, {Kind: der.Bytes, Tag: 7, B: []byte{64, 0}}, {Kind: der.Bytes, Tag: 7}, der.Seq(0), der.Seq(0, num, num), der.Seq(30, raw),
		der.Seq(0, der.Seq(5, num, num)), der.Seq(5, der.Seq(5, num, num)),
		der.Seq(5), der.Seq(5, num), der.Seq(5, num, num, num), der.Seq(5, num, raw), der.Seq(5, raw, num), der.Seq(5, num, big), der.Seq(5, big, num), der.Seq(5, num, der.Num(math.MaxUint64)), der.Seq(5, num, der.Num(1<<63)),
		der.Seq(5, num, tagged), der.Seq(5, tagged, num), der.Seq(5, num, der.Seq(0)), der.Seq(5, num, num, raw), der.Seq(5, num, num, der.Seq(0)),
		der.Seq(7), der.Seq(7, num), der.Seq(7, raw, raw), der.Seq(7, der.Seq(0)), der.Seq(7, der.Value{Kind: der.Bytes, Tag: 7}), der.Seq(7, raw, num),
		der.Seq(1), der.Seq(1, ann), der.Seq(1, raw, raw), der.Seq(1, ann, num), der.Seq(1, num, raw), der.Seq(1, der.Raw([]byte("Ann")), raw), der.Seq(1, der.Raw([]byte("\xff")), raw), der.Seq(1, ann, raw, raw), der.Seq(1, raw, ann), der.Seq(1, der.Value{Kind: der.Bytes, Tag: 1, B: []byte("ann")}, raw), der.Seq(1, ann, der.Value{Kind: der.Bytes, Tag: 1}), der.Seq(1, der.Raw([]byte("abcdefghijklmnopq")), raw),
		der.Seq(6, num, ann, der.Num(2), num), der.Seq(6, num, ann, der.Num(1<<32+1), num), der.Seq(6, num, ann, raw, num), der.Seq(6, num, ann, der.Value{Kind: der.Int, Tag: 2, N: 1}, num), der.Seq(6, num, num, num, num), der.Seq(6, ann, num, num, num), der.Seq(6, num, ann, num),
		der.Seq(2, num, der.Raw(aKey[:15]), ann, num, num, num), der.Seq(2, num, der.Raw(append(aKey[:], 0)), ann, num, num, num), der.Seq(2, num, raw, ann, num, num, num), der.Seq(2, num, num, ann, num, num, num), der.Seq(2, big, key, ann, num, num, num), der.Seq(2, num, key, ann, num, num, big), der.Seq(2, num, key, ann, num, num), der.Seq(2, num, key, ann, num, num, num, num), der.Seq(2, num, der.Value{Kind: der.Bytes, Tag: 3, B: aKey[:]}, ann, num, num, num), der.Seq(2, num, ann, key, num, num, num),
		der.Seq(3, num, key, num, ann, num, num), der.Seq(3, num, key, ann, num, num, num), der.Seq(3, num, key, num, ann, num, num, num, num), der.Seq(3, num, key, big, ann, num, num, num),
		der.Seq(4, ann, num, num, key), der.Seq(4, ann, num, num, key, num), der.Seq(4, ann, num, num, raw, key), der.Seq(4, ann, num, num, key, raw, raw), der.Seq(4, key, num, num, ann, raw),
	}
	for tag := 8; tag <= 30; tag++ {
		list = append(list, der.Seq(tag, num, num), der.Seq(tag, raw), der.Seq(tag, ann, raw))
	}
	return list
}

func TestOfNothing(t *testing.T) {
	for _, v := range noBytes() {
		if thing, ok := Of(v); thing != nil || ok {
			t.Errorf("%+v: %+v, %v", v, thing, ok)
		}
		b, e := der.Write(v)
		if e != api.OK {
			t.Fatalf("%+v: %d", v, e)
		}
		if thing, e := Unpack(b); thing != nil || e != api.ErrForm {
			t.Errorf("%v: %+v, %d", b, thing, e)
		}
	}
}

// The errors of reading come first.
func TestUnpackErrors(t *testing.T) {
	for _, c := range []struct {
		b []byte
		e api.Errno
	}{
		{nil, api.ErrShort}, {row(133), api.ErrShort}, {row(133, 7, 0, 1, 5, 0, 2, 1), api.ErrShort}, {row(133, 128), api.ErrLength}, {row(133, 129, 7, 0, 1, 5, 0, 2, 1, 0), api.ErrLength},
		{row(159, 0), api.ErrTag}, {row(197, 0), api.ErrTag}, {row(133, 6, 0, 0, 0, 2, 1, 0), api.ErrForm}, {row(133, 7, 0, 1, 5, 0, 2, 0, 1), api.ErrForm},
		{row(133, 7, 0, 1, 5, 0, 2, 1, 0, 0), api.ErrMore}, {row(0, 1, 5, 5), api.ErrMore}, {row(0, 1, 5), api.ErrForm}, {row(64, 0), api.ErrForm}, {row(128, 0), api.ErrForm},
		{make([]byte, api.MaxBytes+1), api.ErrLong}, {row(135, 130, 16, 1, make([]byte, api.MaxBytes-3)), api.ErrLong},
		{row(128, 14, 128, 12, 128, 10, 128, 8, 128, 6, 128, 4, 128, 2, 128, 0), api.ErrForm},
	} {
		if thing, e := Unpack(c.b); thing != nil || e != c.e {
			t.Errorf("%v: %+v, %d", c.b, thing, e)
		}
	}
	for _, c := range written() {
		for n := range c.bytes {
			if thing, e := Unpack(c.bytes[:n]); thing != nil || e != api.ErrShort {
				t.Errorf("%v: %+v, %d", c.bytes[:n], thing, e)
			}
		}
	}
}

// Of ends and doesn't panic for values that aren't valid, whatever it answers.
func TestOfInvalid(t *testing.T) {
	self := der.Value{Kind: der.List, Tag: 5, L: make([]der.Value, 2)}
	self.L[0], self.L[1] = der.Num(1), self
	wide := der.Value{Kind: der.List, Tag: 1, L: make([]der.Value, 300)}
	for i := range wide.L {
		wide.L[i] = wide
	}
	deep := der.Seq(1)
	for range 60 { // 2 to the 60 lists, for who goes through all of them
		deep = der.Value{Kind: der.List, Tag: 1, L: []der.Value{deep, deep}}
	}
	for _, v := range []der.Value{
		self, wide, deep, {Kind: 3, Tag: 5}, {Kind: -1, Tag: 5}, {Kind: der.List, Tag: -1}, {Kind: der.List, Tag: 31}, {Kind: der.List, Tag: math.MinInt},
		{Kind: der.List, Tag: 5, L: []der.Value{{Kind: 9}, {Kind: -9}}}, {Kind: der.List, Tag: 7, L: []der.Value{{Kind: der.Bytes, N: 4, L: []der.Value{{}}}}}, {Kind: der.Int, Tag: 5, L: []der.Value{{}, {}}},
	} {
		Of(v)
		x := Take(v)
		x.Num()
		x.Part(0)
		x.Key()
		x.Done()
	}
}

// What comes of a thing shares nothing with it, and the other way round.
func TestNothingIsShared(t *testing.T) {
	body := []byte("abc")
	v, _ := Value(Plain{body})
	b, _ := Pack(Plain{body})
	body[0] = 'x'
	if string(v.L[0].B) != "abc" || string(b[4:]) != "abc" {
		t.Error("Value or Pack keeps what it is given")
	}
	thing, _ := Of(v)
	v.L[0].B[1] = 'x'
	if string(thing.(Plain).Body) != "abc" {
		t.Error("Of keeps what it is given")
	}
	other, _ := Unpack(b)
	b[4] = 'x'
	if string(other.(Plain).Body) != "abc" {
		t.Error("Unpack keeps what it is given")
	}
	v, _ = Value(Ticket{"kdc", []byte("abc")})
	_ = append(v.L[0].B, "more"...)
	if string(v.L[1].B) != "abc" {
		t.Error("two parts share their bytes")
	}
}

// Whatever is done to what was answered, the next answer is as the first.
func TestAnswersAreNew(t *testing.T) {
	b := row(129, 10, 64, 3, "kdc", 64, 3, 7, 0, 255)
	v, _ := der.Read(b)
	for range 3 {
		one, _ := Unpack(b)
		two, _ := Of(v)
		for _, thing := range []any{one, two} {
			box := thing.(Ticket).Box
			if !slices.Equal(box, []byte{7, 0, 255}) {
				t.Fatalf("%v", box)
			}
			clear(append(box, 1, 2, 3))
			clear(box)
		}
	}
}

// The structs of numbers, names and keys can be held against each other.
func TestComparable(t *testing.T) {
	if (Stamp{1, 2}) != (Stamp{1, 2}) || (Stamp{1, 2}) == (Stamp{1, 3}) {
		t.Error("Stamp")
	}
	if (Fact{1, "a", true, 2}) != (Fact{1, "a", true, 2}) || (Inside{Key: aKey}) == (Inside{}) || (Reply{Nonce: 1}) == (Reply{}) {
		t.Error("Fact, Inside or Reply")
	}
}
