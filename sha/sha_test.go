package sha

import (
	"bytes"
	"crypto/sha256"
	"encoding/hex"
	"math/rand"
	"slices"
	"strings"
	"testing"
)

// want is the digest by the library's own hand.
func want(b []byte) []byte {
	d := sha256.Sum256(b)
	return d[:]
}

// some is so many bytes, no two neighbours and no two lengths alike.
func some(n int) []byte {
	b := make([]byte, n)
	dice := rand.New(rand.NewSource(int64(n)))
	dice.Read(b)
	return b
}

// in is the digest of bytes that are written part by part.
func in(parts ...[]byte) []byte {
	s := New()
	for _, p := range parts {
		s.Write(p)
	}
	return s.Digest()
}

func TestKnownDigests(t *testing.T) {
	for _, c := range []struct{ text, want string }{
		{"abc", "ba7816bf8f01cfea414140de5dae2223b00361a396177a9cb410ff61f20015ad"},
		{"", "e3b0c44298fc1c149afbf4c8996fb92427ae41e4649b934ca495991b7852b855"},
		{"abcdbcdecdefdefgefghfghighijhijkijkljklmklmnlmnomnopnopq", "248d6a61d20638b8e5c026930c3e6039a33ce45964ff2167f6ecedd419db06c1"},
		{
			"abcdefghbcdefghicdefghijdefghijkefghijklfghijklmghijklmnhijklmnoijklmnopjklmnopqklmnopqrlmnopqrsmnopqrstnopqrstu",
			"cf5b16a778af8380036ce59e7b0492370b249b11e8f07a51afac45037afee9d1",
		},
		{strings.Repeat("a", 1000000), "cdc76e5c9914fb9281a1c7e284d73e67f1809a48a497200e046d39ccc7112cd0"},
	} {
		if d := hex.EncodeToString(Of([]byte(c.text))); d != c.want {
			t.Errorf("%.20q: %s", c.text, d)
		}
		if d := hex.EncodeToString(in([]byte(c.text))); d != c.want {
			t.Errorf("%.20q, written: %s", c.text, d)
		}
	}
	if Size != 32 {
		t.Error("Size")
	}
}

// All lengths around the ends of blocks: 55 and 56 bytes, 63 and 64, 119 and 120, and so on.
func TestLengths(t *testing.T) {
	list := []int{1000, 4095, 4096, 4097, 8191, 8192, 8193, 65535, 65536, 1<<20 + 7}
	for n := range 400 {
		list = append(list, n)
	}
	for _, n := range list {
		for i, b := range [][]byte{some(n), make([]byte, n), bytes.Repeat([]byte{255}, n), bytes.Repeat([]byte{128}, n)} {
			if d := Of(b); len(d) != Size || !slices.Equal(d, want(b)) {
				t.Errorf("%d bytes, row %d: %x", n, i, d)
			}
			if d := in(b); !slices.Equal(d, want(b)) {
				t.Errorf("%d bytes, row %d, written: %x", n, i, d)
			}
		}
	}
}

func TestEachByte(t *testing.T) {
	for i := range 256 {
		for _, at := range []int{0, 3, 31, 62, 63} {
			b := make([]byte, 64)
			b[at] = byte(i)
			if !slices.Equal(Of(b), want(b)) || !slices.Equal(Of(b[:at+1]), want(b[:at+1])) {
				t.Errorf("byte %d at %d", i, at)
			}
		}
	}
}

// However bytes are divided into parts, the digest is that of all of them.
func TestParts(t *testing.T) {
	for n := range 200 {
		b := some(n)
		d := want(b)
		for cut := range n + 1 {
			if !slices.Equal(in(b[:cut], b[cut:]), d) || !slices.Equal(Of(b[:cut], b[cut:]), d) {
				t.Fatalf("%d bytes, cut at %d", n, cut)
			}
			if !slices.Equal(in(nil, b[:cut], []byte{}, b[cut:], nil), d) || !slices.Equal(Of(nil, b[:cut], []byte{}, b[cut:], nil), d) {
				t.Fatalf("%d bytes, cut at %d, with empty parts", n, cut)
			}
		}
	}
	b := some(3000)
	for size := 1; size <= 300; size++ {
		parts := slices.Collect(slices.Chunk(b, size))
		if !slices.Equal(in(parts...), want(b)) || !slices.Equal(Of(parts...), want(b)) {
			t.Errorf("parts of %d", size)
		}
	}
	dice := rand.New(rand.NewSource(1))
	for range 500 {
		var parts [][]byte
		for range dice.Intn(20) {
			parts = append(parts, some(dice.Intn(150)))
		}
		d := want(slices.Concat(parts...))
		if !slices.Equal(in(parts...), d) || !slices.Equal(Of(parts...), d) {
			t.Fatalf("%d parts", len(parts))
		}
	}
}

func TestNoBytes(t *testing.T) {
	d := want(nil)
	for i, b := range [][]byte{New().Digest(), Of(), Of(nil), Of([]byte{}), Of(nil, nil, []byte{}), in(nil), in([]byte{}, nil)} {
		if !slices.Equal(b, d) {
			t.Errorf("case %d: %x", i, b)
		}
	}
}

// A digest may be taken at any time, and again; more bytes may follow.
func TestDigestChangesNothing(t *testing.T) {
	b := some(300)
	s := New()
	for i := range b {
		for range 2 {
			if !slices.Equal(s.Digest(), want(b[:i])) {
				t.Fatalf("after %d bytes", i)
			}
		}
		s.Write(b[i : i+1])
	}
	if !slices.Equal(s.Digest(), want(b)) {
		t.Error("after all")
	}
}

// Two Sums don't know of each other, nor do two calls of Of.
func TestSumsAreApart(t *testing.T) {
	a, b := New(), New()
	x, y := some(100), some(150)
	a.Write(x[:70])
	b.Write(y[:10])
	Of(x)
	c := New()
	b.Write(y[10:])
	a.Write(x[70:])
	if !slices.Equal(a.Digest(), want(x)) || !slices.Equal(b.Digest(), want(y)) || !slices.Equal(c.Digest(), want(nil)) {
		t.Error("a Sum goes with another one")
	}
}

// Digests are new memory; what is given stays as it was, and may become another without the Sum's knowing.
func TestNothingIsShared(t *testing.T) {
	for _, n := range []int{5, 63, 64, 65, 130} {
		room := some(n + 20)
		kept := slices.Clone(room)
		b := room[:n]
		s := New()
		s.Write(b)
		one := s.Digest()
		two := s.Digest()
		Of(b, b[:3])
		if !slices.Equal(room, kept) {
			t.Errorf("%d bytes: what is given is changed", n)
		}
		clear(room)
		clear(one)
		if !slices.Equal(two, want(kept[:n])) || !slices.Equal(s.Digest(), two) {
			t.Errorf("%d bytes: a digest goes with what was given, or with another digest", n)
		}
		s.Write(two)
		if !slices.Equal(s.Digest(), want(append(kept[:n:n], two...))) {
			t.Errorf("%d bytes: a digest that is written", n)
		}
	}
	if b := Of([]byte{1}); !slices.Equal(Of(b), want(want([]byte{1}))) {
		t.Error("a digest's digest")
	}
	rows := [][]byte{{1, 2}, {3}}
	clear(Of(rows...))
	if !slices.Equal(rows[0], []byte{1, 2}) || !slices.Equal(rows[1], []byte{3}) {
		t.Error("Of changes its rows")
	}
}

// From 2^29 bytes on, the number of bits takes more than four bytes.
func TestManyBytes(t *testing.T) {
	part := some(1 << 20)
	s, other := New(), sha256.New()
	for range 1<<9 - 1 {
		s.Write(part)
		other.Write(part)
	}
	for _, b := range [][]byte{part[:1<<20-1], part[:1], part[:1]} {
		s.Write(b)
		other.Write(b)
		if !slices.Equal(s.Digest(), other.Sum(nil)) {
			t.Errorf("2^29 bytes, or nearly: %x", s.Digest())
		}
	}
}
