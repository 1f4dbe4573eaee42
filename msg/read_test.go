package msg

import (
	"math"
	"math/rand"
	"reflect"
	"slices"
	"strings"
	"testing"

	"compeer/api"
	"compeer/der"
	"compeer/name"
	"compeer/tick"
)

// shapes is what each tag's message has, part by part: a name (s), a number (n), a boolean (t), bytes (b), a ticket (T), tickets (E).
func shapes() map[int]string {
	return map[int]string{11: "snnb", 12: "sTb", 13: "snnttTbE", 14: "sTb", 15: "ssn", 16: "ssnT", 17: "ssnTb", 18: "ssnb", 19: "ssnnnb", 20: "snntTb", 21: "sb", 22: "snn"}
}

func typeOf(tag int) reflect.Type {
	return reflect.TypeOf([]any{AsReq{}, AsRep{}, TgsReq{}, TgsRep{}, Call{}, Card{}, ApReq{}, ApRep{}, Frame{}, DirReq{}, DirRep{}, Fail{}}[tag-11])
}

// isTicket tells whether a value is a ticket's.
func isTicket(v der.Value) bool {
	return v.Kind == der.List && v.Tag == 1 && len(v.L) == 2 && right(v.L[0], 's') && right(v.L[1], 'b')
}

// right tells whether a value is right for a letter of a shape.
func right(v der.Value, c byte) bool {
	switch c {
	case 'T':
		return isTicket(v)
	case 'E':
		return v.Kind == der.List && v.Tag == 0 && len(v.L) <= 1 && !slices.ContainsFunc(v.L, func(v der.Value) bool { return !isTicket(v) })
	}
	if v.Tag != 0 {
		return false
	}
	switch c {
	case 'n':
		return v.Kind == der.Int && v.N <= 1<<40
	case 't':
		return v.Kind == der.Int && v.N <= 1
	case 's':
		return v.Kind == der.Bytes && name.Right(string(v.B))
	}
	return v.Kind == der.Bytes
}

// stands tells whether a value stands for a message of its tag's shape.
func stands(v der.Value) bool {
	shape, ok := shapes()[v.Tag]
	if v.Kind != der.List || !ok || len(v.L) != len(shape) {
		return false
	}
	for i, p := range v.L {
		if !right(p, shape[i]) {
			return false
		}
	}
	return true
}

func tagged(v der.Value, tag int) der.Value {
	v.Tag = tag
	return v
}

// parts is parts of many kinds, each with the letters that it is right for.
func parts() []struct {
	v     der.Value
	right string
} {
	num, raw, ann := der.Num(1), der.Raw(nil), der.Raw([]byte("ann"))
	ticket := der.Seq(1, ann, raw)
	return []struct {
		v     der.Value
		right string
	}{
		{der.Num(0), "nt"}, {num, "nt"}, {der.Num(2), "n"}, {der.Num(api.MaxTime), "n"}, {der.Num(api.MaxTime + 1), ""}, {der.Num(1<<32 + 1), "n"}, {der.Num(1 << 63), ""}, {der.Num(1<<63 + 1), ""}, {der.Num(math.MaxUint64), ""}, {tagged(num, 1), ""}, {tagged(num, 30), ""},
		{raw, "b"}, {ann, "sb"}, {der.Raw([]byte("я")), "sb"}, {der.Raw([]byte("Ann")), "b"}, {der.Raw([]byte("\xff")), "b"}, {der.Raw([]byte("1")), "b"}, {der.Raw([]byte{0}), "b"}, {der.Raw([]byte("abcdefghijklmnop")), "sb"}, {der.Raw([]byte("abcdefghijklmnopq")), "b"}, {der.Raw([]byte(strings.Repeat("é", 16))), "sb"}, {der.Raw(make([]byte, 300)), "b"}, {tagged(ann, 1), ""}, {tagged(raw, 1), ""},
		{ticket, "T"}, {der.Seq(1, ann, ann), "T"}, {der.Seq(1, der.Raw([]byte("kdc")), der.Raw(make([]byte, 300))), "T"}, {der.Seq(1), ""}, {der.Seq(1, ann), ""}, {der.Seq(1, ann, raw, raw), ""}, {der.Seq(1, raw, raw), ""}, {der.Seq(1, raw, ann), ""}, {der.Seq(1, ann, num), ""}, {der.Seq(1, num, raw), ""}, {der.Seq(1, ann, tagged(raw, 1)), ""}, {der.Seq(1, tagged(ann, 1), raw), ""}, {der.Seq(1, ticket), ""}, {der.Seq(1, ann, der.Seq(0)), ""},
		{der.Seq(0), "E"}, {der.Seq(0, ticket), "E"}, {der.Seq(0, ticket, ticket), ""}, {der.Seq(0, ticket, num), ""}, {der.Seq(0, num), ""}, {der.Seq(0, ann), ""}, {der.Seq(0, ann, raw), ""}, {der.Seq(0, der.Seq(0)), ""}, {der.Seq(0, der.Seq(0, ticket)), ""}, {der.Seq(0, der.Seq(1)), ""}, {der.Seq(0, der.Seq(1, raw, raw)), ""}, {der.Seq(0, tagged(ticket, 2)), ""}, {der.Seq(0, tagged(ticket, 0)), ""}, {der.Seq(0, der.Seq(5, num, num)), ""}, {der.Seq(0, der.Seq(7, raw)), ""},
		{tagged(ticket, 0), ""}, {tagged(ticket, 2), ""}, {tagged(ticket, 11), ""}, {der.Seq(1, ticket, ticket), ""}, {der.Seq(30), ""}, {der.Seq(7, raw), ""}, {der.Seq(5, num, num), ""}, {der.Seq(15, ann, ann, num), ""}, {der.Seq(2), ""},
	}
}

// rights is the right parts of a shape, of which all are different if there are two of a kind.
func rights(shape string) []der.Value {
	var list []der.Value
	for i, c := range []byte(shape) {
		named := der.Raw([]byte{'a' + byte(i)})
		list = append(list, map[byte]der.Value{'s': named, 'n': der.Num(uint64(i) + 5), 't': der.Num(uint64(i) & 1), 'b': der.Raw([]byte{9, byte(i)}), 'T': der.Seq(1, named, der.Raw([]byte{8, byte(i)})), 'E': der.Seq(0, der.Seq(1, named, der.Raw([]byte{7, byte(i)})))}[c])
	}
	return list
}

// reads reads a value, itself and its bytes, and tells if it isn't the message that it should be, or if it is one and should not.
func reads(t *testing.T, v der.Value, want bool) {
	t.Helper()
	message, ok := Of(v)
	if ok != want || ok != (message != nil) {
		t.Errorf("%+v: %+v, %v", v, message, ok)
		return
	}
	b, e := der.Write(v)
	if e != api.OK {
		t.Fatalf("%+v: %d", v, e)
	}
	again, e := Read(b)
	if want && e != api.OK || !want && e != api.ErrForm || !reflect.DeepEqual(again, message) {
		t.Errorf("%v: %+v, %d", b, again, e)
	}
	if !want {
		return
	}
	back, ok := Value(message)
	if reflect.TypeOf(message) != typeOf(v.Tag) || !ok || !der.Same(back, v) {
		t.Errorf("%+v: %+v, %+v", v, message, back)
	}
}

// Each part of each message, with each of many parts in its place.
func TestEachPart(t *testing.T) {
	for tag, shape := range shapes() {
		reads(t, der.Seq(tag, rights(shape)...), true)
		for i := range shape {
			for _, p := range parts() {
				for _, c := range []byte("sntbTE") {
					if right(p.v, c) != strings.ContainsRune(p.right, rune(c)) {
						t.Fatalf("%+v, %c", p.v, c)
					}
				}
				l := rights(shape)
				l[i] = p.v
				reads(t, der.Seq(tag, l...), strings.Contains(p.right, shape[i:i+1]))
			}
		}
	}
}

// A part more or a part less, anywhere, and two parts in each other's place.
func TestPartsMissing(t *testing.T) {
	for tag, shape := range shapes() {
		for i := range shape {
			reads(t, der.Seq(tag, slices.Delete(rights(shape), i, i+1)...), false)
			for j := range i {
				l := rights(shape)
				l[i], l[j] = l[j], l[i]
				reads(t, der.Seq(tag, l...), stands(der.Seq(tag, l...)))
			}
		}
		for i := range len(shape) + 1 {
			for _, p := range parts() {
				reads(t, der.Seq(tag, slices.Insert(rights(shape), i, p.v)...), false)
			}
		}
	}
}

// Each tag with the parts of each message: a message has its own alone, and those of the same shape.
func TestEachTag(t *testing.T) {
	for _, shape := range shapes() {
		for tag := range 31 {
			v := der.Seq(tag, rights(shape)...)
			reads(t, v, shapes()[tag] == shape)
			reads(t, der.Value{Kind: der.Bytes, Tag: tag, B: []byte("ann")}, false)
			reads(t, der.Value{Kind: der.Int, Tag: tag, N: 5}, false)
			reads(t, der.Seq(tag), false)
			reads(t, der.Seq(tag, v), false)
		}
	}
	// what is in boxes is no message
	for _, thing := range []any{large(), tick.Inside{Client: "ann"}, tick.Reply{Server: "kdc"}, tick.Authent{Client: "ann"}, tick.Stamp{}, tick.Fact{Name: "ann"}, tick.Plain{}} {
		v, _ := tick.Value(thing)
		reads(t, v, false)
	}
}

// The errors of reading come first.
func TestReadErrors(t *testing.T) {
	call := row(143, 13, 64, 3, "ann", 64, 3, "bob", 0, 1, 1)
	for _, c := range []struct {
		b []byte
		e api.Errno
	}{
		{nil, api.ErrShort}, {row(143), api.ErrShort}, {row(143, 131), api.ErrLength}, {row(159, 0), api.ErrTag}, {row(143, 2, 0, 0), api.ErrForm}, {row(143, 0), api.ErrForm}, {row(0, 1, 5), api.ErrForm}, {row(64, 3, "ann"), api.ErrForm},
		{make([]byte, api.MaxBytes+1), api.ErrLong}, {append(slices.Clone(call), 0), api.ErrMore}, {append(slices.Clone(call), call...), api.ErrMore}, {call[:14], api.ErrShort}, {call[1:], api.ErrShort},
		{row(143, 14, 64, 3, "Ann", 64, 3, "bob", 0, 2, 0, 1), api.ErrForm}, {row(143, 13, 64, 3, "Ann", 64, 3, "bob", 31, 1, 1), api.ErrTag}, {row(143, 13, 64, 3, "Ann", 64, 3, "bob", 0, 1, 1, 9), api.ErrMore}, {row(143, 13, 64, 3, "Ann", 64, 3, "bob", 0, 1, 1), api.ErrForm},
		{row(150, 12, 64, 3, "ann", 0, 1, 5, 0, 2, 0, 7), api.ErrForm}, {row(150, 129, 11, 64, 3, "ann", 0, 1, 7, 0, 1, 9), api.ErrLength},
		{row(133, 6, 0, 1, 0, 0, 1, 0), api.ErrForm}, {row(129, 7, 64, 3, "ann", 64, 0), api.ErrForm},
	} {
		if message, e := Read(c.b); message != nil || e != c.e {
			t.Errorf("%v: %+v, %d, not %d", c.b, message, e, c.e)
		}
	}
}

// What isn't valid comes to an end, whatever it is.
func TestOfWrongValues(t *testing.T) {
	l := make([]der.Value, 3)
	l[0] = der.Value{Kind: der.List, Tag: 1, L: l}
	l[1] = der.Value{Kind: der.List, L: l}
	l[2] = der.Value{Kind: der.List, Tag: 15, L: l}
	deep := der.Seq(1)
	for range 2000 {
		deep = der.Value{Kind: der.List, Tag: 1, L: []der.Value{deep}}
	}
	odd := []der.Value{l[0], l[1], l[2], deep, {Kind: 3}, {Kind: -1}, {Kind: der.Bytes, N: 1}, {Kind: der.Int, B: []byte("ann")}, {Kind: der.Int, L: l}, {Tag: -1}, {Tag: 31}, {Kind: math.MaxInt, Tag: math.MinInt, N: math.MaxUint64, B: []byte{1}, L: l}}
	for _, v := range odd {
		Of(v)
		for tag := -2; tag < 40; tag++ {
			for _, kind := range []int{-1, der.Int, der.Bytes, der.List, 3} {
				Of(der.Value{Kind: kind, Tag: tag, L: []der.Value{v, v, v}})
			}
		}
		for tag, shape := range shapes() {
			for i := range shape {
				list := rights(shape)
				list[i] = v
				Of(der.Value{Kind: der.List, Tag: tag, L: list})
				Of(der.Value{Kind: der.List, Tag: tag, N: 1, B: []byte{1}, L: list})
			}
		}
	}
}

// chance is a part that is mostly right for a letter.
func chance(dice *rand.Rand, c byte) der.Value {
	if dice.Intn(30) == 0 {
		all := parts()
		return all[dice.Intn(len(all))].v
	}
	switch c {
	case 'n':
		return der.Num(uint64(dice.Int63n(api.MaxTime+1)) >> dice.Intn(41))
	case 's':
		return der.Raw([]byte([]string{"ann", "bob", "kdc", "я", "a-1"}[dice.Intn(5)]))
	case 't':
		return der.Num(uint64(dice.Intn(2)))
	case 'T':
		return der.Seq(1, chance(dice, 's'), chance(dice, 'b'))
	case 'E':
		if dice.Intn(2) == 0 {
			return der.Seq(0)
		}
		return der.Seq(0, chance(dice, 'T'))
	}
	b := make([]byte, dice.Intn(300))
	dice.Read(b)
	return der.Raw(b)
}

// Lists that stand for messages or nearly do.
func TestByChance(t *testing.T) {
	dice := rand.New(rand.NewSource(11))
	messages := map[int]int{}
	for range 40000 {
		tag := 11 + dice.Intn(12)
		var l []der.Value
		for _, c := range []byte(shapes()[tag]) {
			l = append(l, chance(dice, c))
		}
		switch dice.Intn(12) {
		case 0:
			l = append(l, der.Num(1))
		case 1:
			l = l[:len(l)-1]
		case 2:
			tag = dice.Intn(31)
		case 3:
			i, j := dice.Intn(len(l)), dice.Intn(len(l))
			l[i], l[j] = l[j], l[i]
		}
		v := der.Seq(tag, l...)
		reads(t, v, stands(v))
		if stands(v) {
			messages[tag]++
		}
	}
	for tag := 11; tag <= 22; tag++ {
		if messages[tag] < 1000 {
			t.Errorf("only %d messages of %d", messages[tag], tag)
		}
	}
}

// Bytes of messages with a byte changed: each is a message with these very bytes, or nothing.
func TestReadByChance(t *testing.T) {
	for _, c := range written() {
		for i := range c.bytes {
			for n := range 256 {
				b := slices.Clone(c.bytes)
				b[i] = byte(n)
				message, e := Read(b)
				v, bad := der.Read(b)
				if bad != api.OK && e != bad || bad == api.OK && (e == api.OK) != stands(v) || (message == nil) != (e != api.OK) {
					t.Fatalf("%v: %+v, %d", b, message, e)
				}
				if e != api.OK {
					continue
				}
				if back, e := Write(message); e != api.OK || !slices.Equal(back, b) {
					t.Fatalf("%v: %v, %d", b, back, e)
				}
			}
		}
	}
}
