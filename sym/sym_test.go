package sym

import (
	"encoding/binary"
	"math"
	"math/rand"
	"slices"
	"testing"

	"compeer/api"
)

// want is a mark by hand.
func want(kind byte, n uint64) []byte {
	return binary.BigEndian.AppendUint64([]byte{255, 254, kind, 0, 0, 0, 0, 0}, n)
}

func wantKey(n int) api.Key { return api.Key(want('k', uint64(n))) }

func TestMark(t *testing.T) {
	for _, kind := range []byte{Key, Box, Sum} {
		for _, n := range []uint64{0, 1, 2, 255, 256, 1<<32 - 1, 1 << 32, 1<<40 - 1, 1 << 40} {
			if k, got, ok := Mark(want(kind, n)); k != kind || uint64(got) != n || !ok {
				t.Errorf("%c %d: %c, %d, %v", kind, n, k, got, ok)
			}
		}
	}
}

func none(t *testing.T, b []byte) {
	t.Helper()
	if kind, n, ok := Mark(b); ok || kind != 0 || n != 0 {
		t.Errorf("%v: %d, %d, %v", b, kind, n, ok)
	}
}

func TestNoMark(t *testing.T) {
	none(t, nil)
	m := want('b', 258)
	for n := range m {
		none(t, m[:n])
		none(t, m[16-n:])
	}
	none(t, append(slices.Clone(m), 0))
	none(t, append([]byte{255}, m...))
	for _, n := range []uint64{1<<40 + 1, 1<<40 + 1<<32, 1 << 41, 1 << 48, 1 << 56, 1 << 63, math.MaxUint64} {
		none(t, want('k', n))
	}
	for kind := range 256 {
		if kind != 'k' && kind != 'b' && kind != 'd' {
			none(t, want(byte(kind), 1))
		}
	}
	for i := range 8 {
		for c := range 256 {
			other := slices.Clone(m)
			other[i] = byte(c)
			if other[i] != m[i] && i != 2 {
				none(t, other)
			}
		}
	}
	none(t, make([]byte, 16))
	none(t, []byte("sixteen letters!"))
}

// found is Find by hand.
func found(b []byte) []api.Key {
	var list []api.Key
	for at := 0; at+16 <= len(b); at++ {
		if _, _, ok := Mark(b[at : at+16]); ok {
			list = append(list, api.Key(b[at:at+16]))
		}
	}
	return list
}

func TestFind(t *testing.T) {
	a, b, c := want('k', 1), want('b', 7), want('d', 1<<40)
	text := slices.Concat([]byte("x"), b, a, []byte{255, 254}, a, []byte{255}, c, c[:15])
	marks := []api.Key{api.Key(b), api.Key(a), api.Key(a), api.Key(c)}
	if got := Find(text); !slices.Equal(got, marks) {
		t.Errorf("%v", got)
	}
	for n := range text {
		if !slices.Equal(Find(text[:n]), found(text[:n])) || !slices.Equal(Find(text[n:]), found(text[n:])) {
			t.Errorf("cut at %d", n)
		}
	}
	for _, b := range [][]byte{nil, {}, {255}, make([]byte, 15), make([]byte, 16), make([]byte, 100), []byte("há, 255 254 k")} {
		if got := Find(b); len(got) != 0 {
			t.Errorf("%v: %v", b, got)
		}
	}
}

// A mark's number may end as another mark begins.
func TestFindOverlapping(t *testing.T) {
	for tail := 1; tail <= 5; tail++ {
		m := want('b', 300)
		first := want('k', 0)
		copy(first[16-tail:], m)
		text := slices.Concat([]byte{9, 9}, first, m[tail:], []byte{9})
		if got := Find(text); !slices.Equal(got, []api.Key{api.Key(first), api.Key(m)}) {
			t.Errorf("%d bytes: %v", tail, got)
		}
	}
}

func TestFindByChance(t *testing.T) {
	dice := rand.New(rand.NewSource(1))
	marks := 0
	for range 3000 {
		var text []byte
		for range dice.Intn(12) {
			m := want("kbdx"[dice.Intn(4)], dice.Uint64()>>dice.Intn(64))
			text = append(text, m[dice.Intn(3)/2:16-dice.Intn(3)/2]...)
		}
		list := Find(text)
		marks += len(list)
		if !slices.Equal(list, found(text)) {
			t.Fatalf("%v: %v", text, list)
		}
	}
	if marks < 1000 {
		t.Errorf("only %d marks", marks)
	}
}

func TestNth(t *testing.T) {
	s := New()
	for _, n := range []int{0, 1, 2, 256, 1 << 40} {
		if k := s.Nth(n); k != wantKey(n) {
			t.Errorf("%d: %v", n, k)
		}
	}
	for _, n := range []int{-1, math.MinInt, 1<<40 + 1, math.MaxInt} {
		if k := s.Nth(n); k != (api.Key{}) {
			t.Errorf("%d: %v", n, k)
		}
	}
	if s.Keys() != 0 {
		t.Error("Nth made a key")
	}
}
