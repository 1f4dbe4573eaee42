package der

import (
	"slices"
	"testing"

	"compeer/api"
)

// row is parts, one behind the other: numbers are bytes.
func row(parts ...any) []byte {
	var b []byte
	for _, p := range parts {
		switch x := p.(type) {
		case int:
			b = append(b, byte(x))
		case []byte:
			b = append(b, x...)
		}
	}
	return b
}

func nought(n int) []byte { return make([]byte, n) }

func TestEncodings(t *testing.T) {
	for i, c := range []struct {
		v    Value
		want []byte
	}{
		{Seq(3, Num(256), Raw([]byte{9}), Seq(0)), row(131, 9, 0, 2, 1, 0, 64, 1, 9, 128, 0)},
		{Num(0), row(0, 1, 0)},
		{Num(127), row(0, 1, 127)},
		{Num(128), row(0, 1, 128)},
		{Num(255), row(0, 1, 255)},
		{Num(256), row(0, 2, 1, 0)},
		{Num(1<<64 - 1), row(0, 8, 255, 255, 255, 255, 255, 255, 255, 255)},
		{Value{Tag: 30, N: 7}, row(30, 1, 7)},
		{Value{Kind: Bytes, Tag: 30}, row(94, 0)},
		{Raw([]byte{0, 0}), row(64, 2, 0, 0)},
		{Seq(30), row(158, 0)},
		{Seq(0, Num(1), Num(2)), row(128, 6, 0, 1, 1, 0, 1, 2)},
		{Raw(nought(127)), row(64, 127, nought(127))},
		{Raw(nought(128)), row(64, 129, 128, nought(128))},
		{Raw(nought(255)), row(64, 129, 255, nought(255))},
		{Raw(nought(256)), row(64, 130, 1, 0, nought(256))},
		{Raw(nought(4092)), row(64, 130, 15, 252, nought(4092))},
		{Seq(0, Raw(nought(125))), row(128, 127, 64, 125, nought(125))},
		{Seq(0, Raw(nought(126))), row(128, 129, 128, 64, 126, nought(126))},
		{Seq(0, Raw(nought(252))), row(128, 129, 255, 64, 129, 252, nought(252))},
		{Seq(0, Raw(nought(253))), row(128, 130, 1, 0, 64, 129, 253, nought(253))},
		{Seq(0, Raw(nought(4088))), row(128, 130, 15, 252, 64, 130, 15, 248, nought(4088))},
	} {
		b, e := Write(c.v)
		if e != api.OK || !slices.Equal(b, c.want) {
			t.Errorf("case %d: %v, %d", i, b, e)
		}
		v, e := Read(c.want)
		if e != api.OK || !Same(v, c.v) {
			t.Errorf("case %d: %v, %d", i, v, e)
		}
	}
}

// Every tag of every kind has a first byte of its own.
func TestFirstBytes(t *testing.T) {
	for head := range 256 {
		want := api.ErrTag
		if head < 192 && head&63 <= 30 {
			want = api.OK
		}
		b := row(head, 1, 5)
		if head >= 128 {
			b = row(head, 0)
		}
		v, e := Read(b)
		if e != want {
			t.Errorf("%d: %d", head, e)
		}
		if e == api.OK && (v.Kind != head/64 || v.Tag != head%64) {
			t.Errorf("%d: %v", head, v)
		}
	}
}

func TestWriteErrors(t *testing.T) {
	for i, v := range wrongValues() {
		if b, e := Write(v); e != api.ErrArg || len(b) != 0 {
			t.Errorf("case %d: %v, %d", i, b, e)
		}
	}
	numbers := make([]Value, 1366)
	rows := make([]Value, 20)
	for i := range rows {
		rows[i] = Raw(nought(250))
	}
	for i, v := range []Value{
		Raw(nought(4093)), Raw(nought(4096)), Raw(nought(70000)), Raw(nought(1 << 17)), Seq(0, Raw(nought(4089))),
		Seq(0, numbers...), Seq(0, rows...), Seq(0, Seq(0, rows...), Num(1)), Seq(0, Num(1), Raw(nought(1<<16))),
		Seq(0, Raw(nought(4088)), Seq(0)),
	} {
		if b, e := Write(v); e != api.ErrLong || len(b) != 0 {
			t.Errorf("case %d: %d bytes, %d", i, len(b), e)
		}
	}
	if b, e := Write(Seq(0, numbers[:1364]...)); e != api.OK || len(b) != 4096 {
		t.Errorf("%d bytes, %d", len(b), e)
	}
	for i, v := range []Value{
		{Kind: Bytes, B: nought(9000), N: 1}, {Kind: Bytes, Tag: 31, B: nought(9000)}, Seq(0, Raw(nought(9000)), Value{Tag: 31}), Seq(0, nested(7), Raw(nought(9000))),
	} {
		if _, e := Write(v); e != api.ErrArg {
			t.Errorf("case %d: not valid and too long: %d", i, e)
		}
	}
}

// in is bytes in so many lists.
func in(lists int, b []byte) []byte {
	for range lists {
		b = row(128, len(b), b)
	}
	return b
}

// The errors of Read, each alone and then each ahead of those behind it.
func TestReadErrors(t *testing.T) {
	for i, c := range []struct {
		b    []byte
		want api.Errno
	}{
		{nought(4097), api.ErrLong},
		{row(64, 130, 15, 253, nought(4093)), api.ErrLong},
		{nought(1 << 17), api.ErrLong},
		{row(255, 128, nought(4095)), api.ErrLong},
		{row(64, 130, 15, 252, nought(4092)), api.OK},
		{nought(4096), api.ErrForm},

		{in(8, row(0, 1, 0)), api.ErrForm},
		{in(8, row(128, 0)), api.ErrForm},
		{in(7, row(128, 0)), api.OK},
		{in(8, nil), api.OK},
		{in(9, nil), api.ErrForm},
		{in(8, row(0)), api.ErrForm},
		{in(7, row(0)), api.ErrShort},
		{in(8, row(0, 128)), api.ErrForm},
		{in(7, row(0, 128)), api.ErrLength},
		{in(8, row(64, 5)), api.ErrForm},
		{in(7, row(64, 5)), api.ErrShort},
		{in(8, row(255, 0)), api.ErrForm},
		{in(7, row(255, 0)), api.ErrTag},
		{in(20, row(255)), api.ErrForm},

		{nil, api.ErrShort},
		{row(0), api.ErrShort},
		{row(64), api.ErrShort},
		{row(255), api.ErrShort},
		{row(128), api.ErrShort},

		{row(0, 128), api.ErrLength},
		{row(64, 128), api.ErrLength},
		{row(128, 128, 0, 0), api.ErrLength},
		{row(64, 131), api.ErrLength},
		{row(64, 131, 0, 0, 1, 7), api.ErrLength},
		{row(64, 132, 0, 0, 0, 1, 7), api.ErrLength},
		{row(64, 136, nought(300)), api.ErrLength},
		{row(64, 192, nought(300)), api.ErrLength},
		{row(64, 255), api.ErrLength},
		{row(255, 255), api.ErrLength},
		{row(31, 128), api.ErrLength},

		{row(64, 129), api.ErrShort},
		{row(64, 130), api.ErrShort},
		{row(64, 130, 1), api.ErrShort},
		{row(64, 130, 0), api.ErrShort},
		{row(255, 129), api.ErrShort},
		{row(255, 130, 0), api.ErrShort},

		{row(64, 129, 127, nought(127)), api.ErrLength},
		{row(64, 129, 0), api.ErrLength},
		{row(0, 129, 1, 5), api.ErrLength},
		{row(64, 129, 127), api.ErrLength},
		{row(64, 130, 0, 255, nought(255)), api.ErrLength},
		{row(64, 130, 0, 128, nought(128)), api.ErrLength},
		{row(64, 130, 0, 5, nought(5)), api.ErrLength},
		{row(64, 130, 0, 0), api.ErrLength},
		{row(64, 130, 0, 255), api.ErrLength},
		{row(255, 129, 5), api.ErrLength},
		{row(255, 130, 0, 200), api.ErrLength},

		{row(64, 1), api.ErrShort},
		{row(64, 127, nought(126)), api.ErrShort},
		{row(64, 129, 128, nought(127)), api.ErrShort},
		{row(64, 129, 255, nought(254)), api.ErrShort},
		{row(64, 130, 1, 0, nought(255)), api.ErrShort},
		{row(64, 130, 255, 255, nought(4000)), api.ErrShort},
		{row(0, 2, 0), api.ErrShort},
		{row(0, 9, 1), api.ErrShort},
		{row(255, 1), api.ErrShort},
		{row(31, 3, 1, 2), api.ErrShort},

		{row(192, 0), api.ErrTag},
		{row(192, 1, 1), api.ErrTag},
		{row(255, 0), api.ErrTag},
		{row(31, 1, 1), api.ErrTag},
		{row(63, 1, 1), api.ErrTag},
		{row(95, 0), api.ErrTag},
		{row(159, 0), api.ErrTag},
		{row(31, 0), api.ErrTag},
		{row(31, 2, 0, 1), api.ErrTag},
		{row(159, 1, 0), api.ErrTag},
		{row(159, 2, 0, 128), api.ErrTag},
		{row(192, 0, 1), api.ErrTag},

		{row(0, 0), api.ErrForm},
		{row(30, 0), api.ErrForm},
		{row(0, 9, 1, nought(8)), api.ErrForm},
		{row(0, 9, nought(9)), api.ErrForm},
		{row(0, 129, 128, nought(128)), api.ErrForm},
		{row(0, 2, 0, 1), api.ErrForm},
		{row(0, 2, 0, 0), api.ErrForm},
		{row(0, 8, 0, 255, 255, 255, 255, 255, 255, 255), api.ErrForm},
		{row(0, 8, 1, nought(7)), api.OK},
		{row(0, 0, 9), api.ErrForm},

		{row(0, 1, 1, 1), api.ErrMore},
		{row(64, 0, 64, 0), api.ErrMore},
		{row(128, 0, 255), api.ErrMore},
		{row(128, 3, 0, 1, 1, 0, 1, 1), api.ErrMore},
		{row(64, 130, 1, 0, nought(257)), api.ErrMore},
	} {
		v, e := Read(c.b)
		if e != c.want {
			t.Errorf("case %d: %d, not %d", i, e, c.want)
		}
		if e != api.OK && !Same(v, Value{}) {
			t.Errorf("case %d: %v beside an error", i, v)
		}
	}
}

// A value in a list ends where the list ends, and the first value that is wrong is told.
func TestReadErrorsInLists(t *testing.T) {
	for i, c := range []struct {
		b    []byte
		want api.Errno
	}{
		{row(128, 1, 0), api.ErrShort},
		{row(128, 1, 0, 1, 5), api.ErrShort},
		{row(128, 2, 0, 1, 5), api.ErrShort},
		{row(128, 2, 0, 1), api.ErrShort},
		{row(128, 2, 64, 129, 128, nought(128)), api.ErrShort},
		{row(128, 3, 64, 129, 128, nought(128)), api.ErrShort},
		{row(128, 4, 128, 3, 0, 1, 7), api.ErrShort},
		{row(128, 5, 128, 2, 0, 1, 7), api.ErrShort},
		{row(128, 4, 0, 1, 1, 0), api.ErrShort},
		{row(128, 5, 0, 0, 255, 1, 1), api.ErrForm},
		{row(128, 5, 255, 1, 1, 0, 0), api.ErrTag},
		{row(128, 5, 0, 1, 1, 0, 0), api.ErrForm},
		{row(128, 5, 0, 1, 1, 31, 0), api.ErrTag},
		{row(128, 5, 0, 1, 1, 64, 131), api.ErrLength},
		{row(128, 7, 128, 2, 0, 0, 255, 1, 1), api.ErrForm},
		{row(128, 7, 255, 1, 1, 128, 2, 0, 0), api.ErrTag},
		{row(128, 6, 128, 1, 0, 255, 1, 1), api.ErrShort},
		{row(128, 6, 128, 4, 0, 0, 64, 131), api.ErrForm},
		{row(128, 2, 0, 0, 1), api.ErrForm},
		{row(128, 5, 255, 1, 1, 1, 1), api.ErrTag},
		{row(128, 5, 0, 1, 1), api.ErrShort},
		{row(128, 5, 255, 1, 1), api.ErrShort},
		{row(128, 8, 0, 1, 1, 64, 1, 7, 128, 0), api.OK},
	} {
		if v, e := Read(c.b); e != c.want || e != api.OK && !Same(v, Value{}) {
			t.Errorf("case %d: %d, not %d", i, e, c.want)
		}
	}
}
