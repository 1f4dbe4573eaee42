package der

import (
	"math/rand"
	"slices"
	"testing"

	"compeer/api"
)

// nested is a list in so many lists.
func nested(lists int) Value {
	v := Seq(0)
	for range lists {
		v = Seq(0, v)
	}
	return v
}

func TestMakers(t *testing.T) {
	if v := Num(77); v.Kind != Int || v.Tag != 0 || v.N != 77 || len(v.B)+len(v.L) != 0 {
		t.Errorf("Num: %v", v)
	}
	if v := Raw([]byte{1, 2}); v.Kind != Bytes || v.Tag != 0 || v.N != 0 || !slices.Equal(v.B, []byte{1, 2}) || len(v.L) != 0 {
		t.Errorf("Raw: %v", v)
	}
	v := Seq(30, Num(1), Raw(nil), Seq(2))
	if v.Kind != List || v.Tag != 30 || v.N != 0 || len(v.B) != 0 || len(v.L) != 3 {
		t.Errorf("Seq: %v", v)
	}
	if v.L[0].N != 1 || v.L[1].Kind != Bytes || v.L[2].Tag != 2 {
		t.Errorf("Seq: %v", v.L)
	}
	if v := Seq(99); v.Kind != List || v.Tag != 99 || len(v.L) != 0 {
		t.Errorf("Seq takes any tag: %v", v)
	}
	if Int != 0 || Bytes != 1 || List != 2 {
		t.Error("kinds")
	}
}

func TestRight(t *testing.T) {
	for i, v := range []Value{
		Num(0), Num(1<<64 - 1), {Tag: 30}, Raw(nil), {Kind: Bytes, B: []byte{}}, {Kind: Bytes, Tag: 30, B: make([]byte, 9000)},
		Seq(0), Seq(30), {Kind: List, L: []Value{}}, {Kind: Int, B: []byte{}, L: []Value{}}, {Kind: List, B: []byte{}},
		Seq(1, Num(1), Raw([]byte{1}), Seq(2, Num(2))), nested(7), Seq(0, nested(6), nested(6)),
	} {
		if !Right(v) {
			t.Errorf("case %d: %v", i, v)
		}
	}
	for i, v := range wrongValues() {
		if Right(v) {
			t.Errorf("case %d: %v", i, v)
		}
	}
}

func wrongValues() []Value {
	one := []Value{Num(1)}
	list := []Value{
		{Kind: 3}, {Kind: -1}, {Kind: 256}, {Kind: 1 << 62}, {Kind: -1 << 63},
		{Tag: 31}, {Tag: -1}, {Tag: 64}, {Tag: 1 << 62}, {Kind: Bytes, Tag: 31}, {Kind: List, Tag: 31}, {Kind: List, Tag: -5},
		{Kind: Int, N: 1, B: []byte{0}}, {Kind: Int, L: one},
		{Kind: Bytes, N: 1}, {Kind: Bytes, L: one}, {Kind: Bytes, B: []byte{1}, N: 1},
		{Kind: List, N: 1}, {Kind: List, B: []byte{1}}, {Kind: List, N: 1, L: one},
		nested(8), nested(9), nested(300), Seq(0, nested(3), nested(7)),
	}
	for _, v := range slices.Clone(list) {
		list = append(list, Seq(0, v), Seq(0, Num(1), Seq(1, Raw(nil), v), Num(2)))
	}
	deep := Num(1)
	for range 8 {
		deep = Seq(0, deep)
	}
	return append(list, deep)
}

// A value in seven lists may be, of whatever kind; in eight it may not.
func TestDeep(t *testing.T) {
	for i, v := range []Value{Num(5), Raw([]byte{5}), Seq(5)} {
		for range 7 {
			v = Seq(0, v)
		}
		b, e := Write(v)
		if !Right(v) || e != api.OK {
			t.Errorf("case %d: %d", i, e)
		}
		if r, e := Read(b); e != api.OK || !Same(r, v) {
			t.Errorf("case %d: %d", i, e)
		}
		v = Seq(0, v)
		if _, e := Write(v); Right(v) || e != api.ErrArg {
			t.Errorf("case %d: %d", i, e)
		}
		b = append([]byte{128, byte(len(b))}, b...)
		if r, e := Read(b); e != api.ErrForm || !Same(r, Value{}) {
			t.Errorf("case %d: %d", i, e)
		}
	}
}

func TestSame(t *testing.T) {
	list := append([]Value{
		Num(0), Num(1), {Tag: 1}, Raw(nil), Raw([]byte{0}), Raw([]byte{0, 0}), Raw([]byte{1}), {Kind: Bytes, Tag: 1},
		Seq(0), Seq(1), Seq(0, Num(0)), Seq(0, Num(1)), Seq(0, Num(0), Num(1)), Seq(0, Num(1), Num(0)), Seq(0, Raw(nil)), Seq(0, Seq(0)),
		Seq(0, Seq(0), Seq(0)), Seq(0, Seq(0, Seq(0))), Seq(0, Num(0), Num(0)),
		nested(7),
	}, wrongValues()...)
	for i, a := range list {
		for j, b := range list {
			if Same(a, b) != Same(b, a) {
				t.Errorf("%v %v: not both ways", a, b)
			}
			if i < 20 && j < 20 && Same(a, b) != (i == j) {
				t.Errorf("%v %v: %t", a, b, Same(a, b))
			}
		}
		if !Same(a, Seq(0, a).L[0]) {
			t.Errorf("%v isn't itself", a)
		}
	}
	if !Same(Value{B: []byte{}, L: []Value{}}, Value{}) {
		t.Error("nil and empty")
	}
	if Same(Value{Kind: Int, B: []byte{1}}, Value{Kind: Int}) || Same(Value{Kind: Bytes, N: 1}, Value{Kind: Bytes}) || Same(Value{Kind: Int, L: []Value{{}}}, Value{}) {
		t.Error("fields of other kinds")
	}
	if !Same(nested(2000), nested(2000)) || Same(nested(2000), nested(2001)) {
		t.Error("deep ones")
	}
}

// hanging is a value in so many lists, made without Seq, which would copy them all each time.
func hanging(lists int, v Value) Value {
	for range lists {
		v = Value{Kind: List, L: []Value{v}}
	}
	return v
}

func TestVeryDeep(t *testing.T) {
	a, b := hanging(1<<16, Num(1)), hanging(1<<16, Num(2))
	if !Same(a, hanging(1<<16, Num(1))) || Same(a, b) || Right(a) {
		t.Error("deep values")
	}
	if v := Seq(4, a); !Same(v.L[0], a) {
		t.Error("a deep value's copy")
	}
	if _, e := Write(a); e != api.ErrArg {
		t.Errorf("%d", e)
	}
}

// A list that holds itself has no end, but every call has.
func TestEndless(t *testing.T) {
	l := make([]Value, 2)
	l[0] = Value{Kind: List, L: l}
	l[1] = Value{Kind: List, L: l}
	if Right(l[0]) || Right(Seq(0, l...)) {
		t.Error("endless values are valid")
	}
	if b, e := Write(l[0]); e != api.ErrArg || len(b) != 0 {
		t.Errorf("%d", e)
	}
	if _, e := Write(Seq(0, l...)); e != api.ErrArg {
		t.Errorf("%d", e)
	}
	if Same(l[0], Num(1)) {
		t.Error("Same")
	}
	Same(l[0], l[1])
}

// Values share nothing with what they were made of, at any depth, nor does an encoding.
func TestNothingIsShared(t *testing.T) {
	b := []byte{1, 2, 3}
	raw := Raw(b)
	list := []Value{raw, Seq(1, raw, Num(5))}
	v := Seq(2, list...)
	want := Seq(2, Raw([]byte{1, 2, 3}), Seq(1, Raw([]byte{1, 2, 3}), Num(5)))
	b[0] = 9
	if !Same(raw, Raw([]byte{1, 2, 3})) {
		t.Error("Raw keeps what it was given")
	}
	raw.B[1] = 9
	list[1].L[0].B[2] = 9
	list[1].L[1].N = 6
	list[0] = Num(7)
	if !Same(v, want) {
		t.Errorf("Seq keeps what it was given: %v", v)
	}
	v.L[0].B[0] = 8
	v.L[1].L[1] = Num(8)
	if list[1].L[1].N != 6 || v.L[1].L[0].B[0] != 1 {
		t.Error("Seq gives what it was given, or the same bytes twice")
	}
	w, _ := Write(want)
	for i := range w {
		w[i] = 255
	}
	if !Same(want, Seq(2, Raw([]byte{1, 2, 3}), Seq(1, Raw([]byte{1, 2, 3}), Num(5)))) {
		t.Error("Write gives what it was given")
	}
	w, _ = Write(want)
	r, _ := Read(w)
	for i := range w {
		w[i] = 255
	}
	if !Same(r, want) {
		t.Error("Read keeps what it was given")
	}
	r.L[0].B[0] = 77
	r.L[1].L = append(r.L[1].L, Num(1))
	if w[0] != 255 || slices.Contains(w, 77) || len(want.L[1].L) != 2 {
		t.Error("Read gives what it was given")
	}
}

// anyValue is a valid value, of small parts.
func anyValue(dice *rand.Rand, lists int) Value {
	kind := dice.Intn(3)
	if lists > 7 || kind == List && lists == 7 && dice.Intn(2) == 0 {
		kind = Int
	}
	v := Value{Kind: kind, Tag: dice.Intn(31)}
	switch kind {
	case Int:
		v.N = dice.Uint64() >> dice.Intn(64)
	case Bytes:
		v.B = make([]byte, dice.Intn(4)*dice.Intn(50))
		dice.Read(v.B)
	case List:
		for range dice.Intn(4) {
			if lists < 7 {
				v.L = append(v.L, anyValue(dice, lists+1))
			}
		}
	}
	return v
}

func TestThereAndBack(t *testing.T) {
	dice := rand.New(rand.NewSource(2))
	for range 20000 {
		v := anyValue(dice, 0)
		b, e := Write(v)
		if e != api.OK && e != api.ErrLong || !Right(v) {
			t.Fatalf("%v: %d", v, e)
		}
		if e == api.ErrLong {
			continue
		}
		r, e := Read(b)
		if e != api.OK || !Same(r, v) || !Right(r) {
			t.Fatalf("%v: %v, %d", b, r, e)
		}
	}
}

// What Read takes is what Write writes, byte by byte: no value has two encodings, and no encoding two values.
func TestOneEncoding(t *testing.T) {
	taken := 0
	try := func(b []byte) {
		v, e := Read(b)
		if e != api.OK {
			if !Same(v, Value{}) {
				t.Fatalf("%v: %v beside %d", b, v, e)
			}
			return
		}
		taken++
		if w, e := Write(v); e != api.OK || !slices.Equal(w, b) {
			t.Fatalf("%v is written as %v (%d)", b, w, e)
		}
	}
	for i := range 1 << 16 {
		try([]byte{byte(i >> 8), byte(i)})
	}
	for i := range 1 << 24 {
		if i>>16 < 2 || i>>16 == 30 || i>>16 == 31 || i>>16 == 64 || i>>16 == 128 || i>>16 == 192 {
			try([]byte{byte(i >> 16), byte(i >> 8), byte(i)})
		}
	}
	few := []byte{0, 1, 2, 3, 31, 64, 65, 127, 128, 129, 130, 158, 255}
	dice := rand.New(rand.NewSource(3))
	for range 300000 {
		b := make([]byte, dice.Intn(12))
		for i := range b {
			b[i] = few[dice.Intn(len(few))]
		}
		try(b)
	}
	if taken < 1000 {
		t.Errorf("only %d were taken", taken)
	}
}

// Of an encoding, each part that is missing, and each byte that is another, makes another value or an error.
func TestChangedEncodings(t *testing.T) {
	dice := rand.New(rand.NewSource(4))
	for range 300 {
		v := anyValue(dice, 0)
		b, e := Write(v)
		if e != api.OK || len(b) > 300 {
			continue
		}
		for cut := range b {
			if _, e := Read(b[:cut]); e == api.OK {
				t.Fatalf("%v: %d bytes are enough", b, cut)
			}
		}
		if _, e := Read(append(slices.Clone(b), 0)); e != api.ErrMore {
			t.Fatalf("%v and a byte more: %d", b, e)
		}
		for i := range b {
			c := slices.Clone(b)
			c[i] ^= byte(1 + dice.Intn(255))
			r, e := Read(c)
			if e == api.OK && Same(r, v) {
				t.Fatalf("%v and %v are the same", b, c)
			}
		}
	}
}
