package octet

import (
	"encoding/binary"
	"fmt"
	"math/rand"
	"slices"
	"testing"

	"compeer/api"
)

// numbers has both sides of each place where a number needs a byte more.
func numbers() []uint64 {
	list := []uint64{0, 1, 127, 128, 258, 65536, 1<<56 | 5, 1<<64 - 1, 0x0123456789abcdef}
	for bits := 8; bits < 64; bits += 8 {
		list = append(list, 1<<bits-1, 1<<bits, 1<<bits+1)
	}
	dice := rand.New(rand.NewSource(1))
	for range 200 {
		list = append(list, dice.Uint64()>>dice.Intn(64))
	}
	return list
}

func TestPutShortGet(t *testing.T) {
	for _, n := range numbers() {
		want := binary.BigEndian.AppendUint64(nil, n)
		if b := Put(n); !slices.Equal(b, want) {
			t.Errorf("Put(%d) = %v", n, b)
		}
		zeros := 0
		for zeros < 7 && want[zeros] == 0 {
			zeros++
		}
		if b := Short(n); !slices.Equal(b, want[zeros:]) {
			t.Errorf("Short(%d) = %v", n, b)
		}
		for from := 0; from <= zeros; from++ {
			if m, ok := Get(want[from:]); !ok || m != n {
				t.Errorf("Get(%v) = %d, %t", want[from:], m, ok)
			}
		}
	}
}

func TestExamples(t *testing.T) {
	if b := Put(258); !slices.Equal(b, []byte{0, 0, 0, 0, 0, 0, 1, 2}) {
		t.Errorf("Put(258) = %v", b)
	}
	if b := Short(258); !slices.Equal(b, []byte{1, 2}) {
		t.Errorf("Short(258) = %v", b)
	}
	if b := Short(0); !slices.Equal(b, []byte{0}) {
		t.Errorf("Short(0) = %v", b)
	}
}

func TestGetRefusesLengths(t *testing.T) {
	for _, b := range [][]byte{nil, {}, {0, 0, 0, 0, 0, 0, 0, 0, 1}, {1, 2, 3, 4, 5, 6, 7, 8, 9}, make([]byte, 4096)} {
		if n, ok := Get(b); ok || n != 0 {
			t.Errorf("Get of %d bytes = %d, %t", len(b), n, ok)
		}
	}
}

func TestEqual(t *testing.T) {
	if !Equal(nil, nil) || !Equal(nil, []byte{}) || !Equal([]byte{}, nil) {
		t.Error("no bytes aren't no bytes")
	}
	for size := 1; size <= 20; size++ {
		a := make([]byte, size)
		for i := range a {
			a[i] = byte(7 * i)
		}
		if !Equal(a, slices.Clone(a)) {
			t.Errorf("%d bytes aren't the same", size)
		}
		for i := range a {
			for bit := range 8 {
				b := slices.Clone(a)
				b[i] ^= 1 << bit
				if Equal(a, b) || Equal(b, a) {
					t.Errorf("byte %d of %d, bit %d", i, size, bit)
				}
			}
		}
		for cut := range size {
			if Equal(a, a[:cut]) || Equal(a[:cut], a) {
				t.Errorf("%d bytes and %d", size, cut)
			}
		}
	}
}

// A difference in two places must not take itself away, nor zeros stand for bytes that aren't there.
func TestEqualAddsUp(t *testing.T) {
	for _, c := range [][2][]byte{
		{{1, 1}, {0, 0}}, {{1, 2}, {2, 1}}, {{255, 1}, {0, 0}},
		{nil, {0}}, {{0}, {0, 0}}, {{5}, {5, 0, 0}},
		{make([]byte, 256), nil}, {make([]byte, 65536), nil}, {make([]byte, 257), make([]byte, 1)},
	} {
		if Equal(c[0], c[1]) || Equal(c[1], c[0]) {
			t.Errorf("%d bytes and %d are the same", len(c[0]), len(c[1]))
		}
	}
}

func TestZero(t *testing.T) {
	Zero(nil)
	Zero([]byte{})
	b := []byte{1, 2, 3, 4, 5, 255}
	Zero(b[1:5])
	if !slices.Equal(b, []byte{1, 0, 0, 0, 0, 255}) {
		t.Errorf("%v", b)
	}
}

func TestKey(t *testing.T) {
	long := make([]byte, 40)
	for i := range long {
		long[i] = byte(i + 1)
	}
	for size := range len(long) + 1 {
		var want api.Key
		if size == 16 {
			copy(want[:], long)
		}
		if k, ok := Key(long[:size]); ok != (size == 16) || k != want {
			t.Errorf("%d bytes: %v, %t", size, k, ok)
		}
	}
	if k, ok := Key(nil); ok || k != (api.Key{}) {
		t.Errorf("no bytes: %v, %t", k, ok)
	}
}

func TestJoined(t *testing.T) {
	for _, c := range []struct {
		rows [][]byte
		want []byte
	}{
		{nil, nil},
		{[][]byte{nil}, nil},
		{[][]byte{{}, nil, {}}, nil},
		{[][]byte{{1}}, []byte{1}},
		{[][]byte{{1, 2}, nil, {3}, {4, 5, 6}}, []byte{1, 2, 3, 4, 5, 6}},
		{[][]byte{{0}, {0}}, []byte{0, 0}},
	} {
		if b := Joined(c.rows...); !slices.Equal(b, c.want) {
			t.Errorf("%v: %v", c.rows, b)
		}
	}
}

// Answers are new memory, and what is given stays as it was.
func TestNothingIsShared(t *testing.T) {
	row := make([]byte, 3, 10)
	copy(row, []byte{1, 2, 3})
	one := Joined(row)
	two := Joined(row, []byte{4})
	row[0] = 9
	if !slices.Equal(one, []byte{1, 2, 3}) || !slices.Equal(two, []byte{1, 2, 3, 4}) {
		t.Errorf("what is joined goes with what was given: %v %v", one, two)
	}
	one[1], two[2] = 8, 8
	if !slices.Equal(row[:4], []byte{9, 2, 3, 0}) {
		t.Errorf("what was given goes with what is joined: %v", row[:4])
	}
	rows := [][]byte{{1}, {2}}
	Joined(rows...)[0] = 7
	if fmt.Sprint(rows) != "[[1] [2]]" {
		t.Errorf("%v", rows)
	}
	for _, f := range []func(uint64) []byte{Put, Short} {
		b := f(1 << 60)
		Zero(b)
		if n, _ := Get(f(1 << 60)); n != 1<<60 {
			t.Error("two answers share memory")
		}
	}
	b := make([]byte, 16)
	k, _ := Key(b)
	b[0] = 1
	if k != (api.Key{}) {
		t.Error("a key goes with its bytes")
	}
	if Equal(row, b); !slices.Equal(row, []byte{9, 2, 3}) {
		t.Error("Equal changes what it compares")
	}
	if Get(row); !slices.Equal(row, []byte{9, 2, 3}) {
		t.Error("Get changes its bytes")
	}
}
