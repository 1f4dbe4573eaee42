package tick

import (
	"math"
	"math/rand"
	"reflect"
	"slices"
	"testing"

	"compeer/api"
	"compeer/der"
	"compeer/name"
)

func tagged(v der.Value, tag int) der.Value {
	v.Tag = tag
	return v
}

func TestTakeAll(t *testing.T) {
	part := der.Seq(9, der.Num(5), der.Seq(0, der.Raw([]byte("in"))))
	x := Take(der.Seq(30, der.Num(7), der.Num(api.MaxTime), der.Num(0), der.Raw([]byte("ána-1")), der.Raw(aKey[:]), der.Num(1), der.Num(0), der.Raw(nil), der.Raw([]byte("abc")), part, der.Seq(0)))
	for _, want := range []int64{7, api.MaxTime, 0} {
		if n := x.Num(); n != want || x.Done() {
			t.Errorf("Num: %d", n)
		}
	}
	if s := x.Name(); s != "ána-1" || x.Done() {
		t.Errorf("Name: %q", s)
	}
	if k := x.Key(); k != aKey || x.Done() {
		t.Errorf("Key: %v", k)
	}
	if x.Truth() != true || x.Truth() != false || x.Done() {
		t.Error("Truth")
	}
	if b := x.Bytes(); len(b) != 0 || x.Done() {
		t.Errorf("Bytes: %v", b)
	}
	if b := x.Bytes(); string(b) != "abc" || x.Done() {
		t.Errorf("Bytes: %v", b)
	}
	if v := x.Part(9); !der.Same(v, part) || x.Done() {
		t.Errorf("Part: %+v", v)
	}
	if v := x.Part(0); !der.Same(v, der.Seq(0)) {
		t.Errorf("Part: %+v", v)
	}
	if !x.Done() || !x.Done() {
		t.Error("not done")
	}
	x.Bytes()
	if x.Done() || x.Done() {
		t.Error("done after a read behind the end")
	}
}

func TestTakeNothing(t *testing.T) {
	for _, v := range []der.Value{{}, der.Seq(0), der.Seq(30), der.Num(5), der.Raw([]byte("abc")), {Kind: 7, Tag: -3}} {
		if !Take(v).Done() {
			t.Errorf("%+v: not done", v)
		}
		for i, read := range reads() {
			x := Take(v)
			read(x)
			if x.Done() {
				t.Errorf("%+v, read %d: done", v, i)
			}
		}
	}
}

// Whatever a value is, it is its L that is taken, and its tag doesn't matter.
func TestTakeOfNoList(t *testing.T) {
	l := []der.Value{der.Num(5), der.Raw([]byte("ann"))}
	for _, v := range []der.Value{{L: l}, {Kind: der.Bytes, B: []byte("x"), L: l}, {Kind: -1, Tag: 99, N: 3, L: l}, {Kind: der.List, Tag: -1, L: l}} {
		x := Take(v)
		if x.Num() != 5 || x.Name() != "ann" || !x.Done() {
			t.Errorf("%+v", v)
		}
	}
}

// Elements that are valid alone may stand in a list that isn't.
func TestTakeDeepParts(t *testing.T) {
	deep := der.Seq(3)
	for range 7 {
		deep = der.Seq(3, deep)
	}
	x := Take(der.Seq(3, deep, der.Num(1)))
	if v := x.Part(3); !der.Same(v, deep) || x.Num() != 1 || !x.Done() {
		t.Errorf("%+v", v)
	}
}

// reads is the ways of reading a part.
func reads() []func(x *Taker) any {
	return []func(x *Taker) any{
		func(x *Taker) any { return x.Num() },
		func(x *Taker) any { return x.Name() },
		func(x *Taker) any { return x.Key() },
		func(x *Taker) any { return x.Truth() },
		func(x *Taker) any { return string(x.Bytes()) },
		func(x *Taker) any { x.Part(0); return 0 },
		func(x *Taker) any { x.Part(3); return 3 },
	}
}

// parts is parts, each with what the ways of reads answer of it; nil: it is not what they ask for.
func parts() []struct {
	v      der.Value
	answer []any
} {
	long := []byte("abcdefghijklmnop") // a name, and a key
	no := any(nil)
	return []struct {
		v      der.Value
		answer []any
	}{
		{der.Num(0), []any{int64(0), no, no, false, no, no, no}},
		{der.Num(1), []any{int64(1), no, no, true, no, no, no}},
		{der.Num(2), []any{int64(2), no, no, no, no, no, no}},
		{der.Num(api.MaxTime), []any{int64(api.MaxTime), no, no, no, no, no, no}},
		{der.Num(api.MaxTime + 1), []any{no, no, no, no, no, no, no}},
		{der.Num(1<<63 + 1), []any{no, no, no, no, no, no, no}},
		{der.Num(math.MaxUint64), []any{no, no, no, no, no, no, no}},
		{tagged(der.Num(1), 1), []any{no, no, no, no, no, no, no}},
		{tagged(der.Num(1), 3), []any{no, no, no, no, no, no, no}},
		{der.Raw(nil), []any{no, no, no, no, "", no, no}},
		{der.Raw([]byte{1}), []any{no, no, no, no, "\x01", no, no}},
		{der.Raw([]byte("ann")), []any{no, "ann", no, no, "ann", no, no}},
		{der.Raw([]byte("Ann")), []any{no, no, no, no, "Ann", no, no}},
		{der.Raw([]byte("a\xff")), []any{no, no, no, no, "a\xff", no, no}},
		{der.Raw(long), []any{no, string(long), api.Key(long), no, string(long), no, no}},
		{der.Raw(long[:15]), []any{no, string(long[:15]), no, no, string(long[:15]), no, no}},
		{der.Raw([]byte("abcdefghijklmnopq")), []any{no, no, no, no, "abcdefghijklmnopq", no, no}},
		{der.Raw(aKey[:]), []any{no, no, aKey, no, string(aKey[:]), no, no}},
		{tagged(der.Raw(long), 1), []any{no, no, no, no, no, no, no}},
		{tagged(der.Raw(long), 3), []any{no, no, no, no, no, no, no}},
		{der.Seq(0), []any{no, no, no, no, no, 0, no}},
		{der.Seq(0, der.Num(1)), []any{no, no, no, no, no, 0, no}},
		{der.Seq(3, der.Num(1)), []any{no, no, no, no, no, no, 3}},
		{der.Seq(4, der.Seq(0)), []any{no, no, no, no, no, no, no}},
	}
}

// Each part, read in each way: alone, and among others that are right.
func TestEachPartInEachWay(t *testing.T) {
	one := der.Num(1)
	for _, p := range parts() {
		for i, read := range reads() {
			want := p.answer[i]
			alone := Take(der.Seq(0, p.v))
			if alone.Done() {
				t.Errorf("%+v: done ahead of it", p.v)
			}
			if got := read(alone); alone.Done() != (want != nil) || want != nil && got != want {
				t.Errorf("%+v, read %d: %v, %v", p.v, i, got, alone.Done())
			}
			among := Take(der.Seq(0, one, p.v, one))
			among.Num()
			read(among)
			if among.Done() {
				t.Errorf("%+v, read %d: done with one left", p.v, i)
			}
			if n := among.Num(); among.Done() != (want != nil) || want != nil && n != 1 {
				t.Errorf("%+v, read %d: then %d, %v", p.v, i, n, among.Done())
			}
		}
	}
}

// What was wrong once is never done.
func TestWrongForEver(t *testing.T) {
	for _, p := range parts() {
		for i, read := range reads() {
			if p.answer[i] != nil {
				continue
			}
			x := Take(der.Seq(0, p.v, p.v, p.v))
			read(x)
			for range 5 {
				for j, again := range reads() {
					again(x)
					if x.Done() {
						t.Fatalf("%+v, read %d and %d: done", p.v, i, j)
					}
				}
			}
		}
	}
}

func TestPartTags(t *testing.T) {
	for tag := range 31 {
		v := der.Seq(tag, der.Raw([]byte("x")))
		for ask := -2; ask < 40; ask++ {
			x := Take(der.Seq(1, v))
			got := x.Part(ask)
			if x.Done() != (ask == tag) || ask == tag && !der.Same(got, v) {
				t.Errorf("%d of %d: %+v", ask, tag, got)
			}
		}
	}
}

// A Taker keeps nothing of the list, and what it answers is the caller's.
func TestTakeSharesNothing(t *testing.T) {
	v := der.Seq(0, der.Raw([]byte("abc")), der.Seq(1, der.Raw([]byte("def"))), der.Num(1))
	x, y := Take(v), Take(v)
	b, p := y.Bytes(), y.Part(1)
	clear(b)
	clear(p.L[0].B)
	p.L[0] = der.Num(9)
	if string(v.L[0].B) != "abc" || !der.Same(v.L[1], der.Seq(1, der.Raw([]byte("def")))) {
		t.Error("what was answered is the list's own")
	}
	clear(v.L[0].B)
	clear(v.L[1].L[0].B)
	v.L[2] = der.Raw(nil)
	if b := x.Bytes(); string(b) != "abc" {
		t.Errorf("%q", b)
	}
	if p := x.Part(1); !der.Same(p, der.Seq(1, der.Raw([]byte("def")))) || x.Num() != 1 || !x.Done() {
		t.Errorf("%+v", p)
	}
	// two Takers of one list go on by themselves
	if y.Num() != 1 || !y.Done() {
		t.Error("the second")
	}
}

// What each type's list holds, by hand: n a number, s a name, k a key, t a truth, b bytes.
func shapes() []string {
	return []string{1: "sb", 2: "nksnnn", 3: "nknsnnn", 4: "snnkb", 5: "nn", 6: "nstn", 7: "b"}
}

// chance is a value for a letter of a shape; now and then it is another one.
func chance(dice *rand.Rand, c byte) der.Value {
	if dice.Intn(25) == 0 {
		all := parts()
		return all[dice.Intn(len(all))].v
	}
	switch c {
	case 'n':
		return der.Num(uint64(dice.Int63n(api.MaxTime+1)) >> dice.Intn(41))
	case 's':
		return der.Raw([]byte([]string{"ann", "bob", "kdc", "я", "a-1"}[dice.Intn(5)]))
	case 'k':
		k := make([]byte, 16)
		dice.Read(k)
		return der.Raw(k)
	case 't':
		return der.Num(uint64(dice.Intn(2)))
	}
	b := make([]byte, dice.Intn(300))
	dice.Read(b)
	return der.Raw(b)
}

// right tells whether a value is right for a letter of a shape.
func right(v der.Value, c byte) bool {
	if v.Tag != 0 {
		return false
	}
	switch c {
	case 'n':
		return v.Kind == der.Int && v.N <= 1<<40
	case 't':
		return v.Kind == der.Int && v.N <= 1
	case 'k':
		return v.Kind == der.Bytes && len(v.B) == 16
	case 's':
		return v.Kind == der.Bytes && name.Right(string(v.B))
	}
	return v.Kind == der.Bytes
}

// stands tells whether a list stands for a thing of its tag's shape.
func stands(v der.Value) bool {
	if v.Kind != der.List || v.Tag < 1 || v.Tag > 7 || len(v.L) != len(shapes()[v.Tag]) {
		return false
	}
	for i, p := range v.L {
		if !right(p, shapes()[v.Tag][i]) {
			return false
		}
	}
	return true
}

func typeOf(tag int) reflect.Type {
	return reflect.TypeOf([]any{1: Ticket{}, 2: Inside{}, 3: Reply{}, 4: Authent{}, 5: Stamp{}, 6: Fact{}, 7: Plain{}}[tag])
}

// Lists that stand for something or nearly do: what Of says of each, and that nothing is lost on the way there and back.
func TestOfByChance(t *testing.T) {
	dice := rand.New(rand.NewSource(10))
	things := 0
	for range 40000 {
		tag := dice.Intn(7) + 1
		var l []der.Value
		for _, c := range []byte(shapes()[tag]) {
			l = append(l, chance(dice, c))
		}
		switch dice.Intn(12) {
		case 0:
			l = append(l, der.Num(1))
		case 1:
			l = l[:len(l)-1]
		case 2:
			tag = dice.Intn(31)
		case 3:
			i, j := dice.Intn(len(l)), dice.Intn(len(l))
			l[i], l[j] = l[j], l[i]
		}
		v := der.Seq(tag, l...)
		thing, ok := Of(v)
		if ok != stands(v) || !ok && thing != nil {
			t.Fatalf("%+v: %+v, %v", v, thing, ok)
		}
		if !ok {
			continue
		}
		things++
		back, again := Value(thing)
		if reflect.TypeOf(thing) != typeOf(tag) || !again || !der.Same(back, v) {
			t.Fatalf("%+v: %+v, %+v", v, thing, back)
		}
	}
	if things < 10000 {
		t.Errorf("only %d things", things)
	}
}

// Bytes of things with a byte changed: each is a thing with these very bytes, or nothing.
func TestUnpackByChance(t *testing.T) {
	for _, c := range written() {
		for i := range c.bytes {
			for _, n := range []byte{0, 1, 2, 63, 64, 127, 128, 255, c.bytes[i] + 1, c.bytes[i] - 1} {
				b := slices.Clone(c.bytes)
				b[i] = n
				thing, e := Unpack(b)
				if v, bad := der.Read(b); bad != api.OK && e != bad || bad == api.OK && (e == api.OK) != stands(v) {
					t.Fatalf("%v: %+v, %d", b, thing, e)
				}
				if e != api.OK {
					if thing != nil {
						t.Fatalf("%v: %+v, %d", b, thing, e)
					}
					continue
				}
				if back, e := Pack(thing); e != api.OK || !slices.Equal(back, b) {
					t.Fatalf("%v: %v, %d", b, back, e)
				}
			}
		}
	}
}
