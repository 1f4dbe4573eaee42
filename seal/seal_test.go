package seal

import (
	stdaes "crypto/aes"
	"crypto/cipher"
	"crypto/hmac"
	"crypto/sha256"
	"encoding/binary"
	"fmt"
	"math"
	"math/rand"
	"slices"
	"testing"

	"compeer/api"
	"compeer/mac"
)

var _ api.Provider = (*Real)(nil)

// some is so many bytes, another row for each seed.
func some(seed int64, n int) []byte {
	b := make([]byte, n)
	rand.New(rand.NewSource(seed)).Read(b)
	return b
}

// code is HMAC by the library's own hand, 16 bytes of it.
func wantCode(key []byte, b []byte) []byte {
	h := hmac.New(sha256.New, key)
	h.Write(b)
	return h.Sum(nil)[:16]
}

// wantBox is a box by the library's own hand.
func wantBox(k api.Key, usage int, number uint64, body []byte) []byte {
	e := wantCode(k[:], append(fmt.Appendf(nil, "e%d", usage), 0, 1))
	m := wantCode(k[:], append(fmt.Appendf(nil, "m%d", usage), 0, 1))
	box := binary.BigEndian.AppendUint64(nil, number)
	c, err := stdaes.NewCipher(e)
	if err != nil {
		panic(err)
	}
	from := make([]byte, 16)
	copy(from, box)
	hidden := make([]byte, len(body))
	cipher.NewCTR(c, from).XORKeyStream(hidden, body)
	box = append(box, hidden...)
	return append(box, wantCode(m, box)...)
}

func usages() []int {
	return []int{api.UsePre, api.UseTicket, api.UseReply, api.UseAuth, api.UseTgs, api.UseAp, api.UseApRep, api.UseDir, api.UseRecord, 0, -1, -14, 10, 100, 1 << 32, math.MaxInt, math.MinInt}
}

func TestFresh(t *testing.T) {
	for _, seed := range [][]byte{nil, {}, {0}, []byte("seed"), some(1, 63), some(1, 64), some(1, 65), some(1, 1000)} {
		r := New(seed)
		for i := range 300 {
			n := binary.BigEndian.AppendUint64(nil, uint64(i+1))
			if k := r.Fresh(); !slices.Equal(k[:], wantCode(seed, n)) {
				t.Fatalf("seed of %d bytes, key %d: %x", len(seed), i+1, k)
			}
		}
	}
}

// The sequence of keys and the count of boxes don't hang on each other, nor on other calls.
func TestCounts(t *testing.T) {
	r, keys := New([]byte("x")), New([]byte("x"))
	var k api.Key
	for i := range uint64(20) {
		r.Text("a", "b")
		r.Derive(k, "c")
		r.Digest(nil)
		if f := r.Fresh(); f != keys.Fresh() {
			t.Fatalf("key %d: %x", i+1, f)
		}
		box := r.Seal(k, 1, []byte("abc"))
		r.Open(k, 1, box)
		r.Open(k, 2, box)
		if n := binary.BigEndian.Uint64(box); n != i+1 {
			t.Fatalf("box %d has the number %d", i+1, n)
		}
	}
}

func TestTextDeriveDigest(t *testing.T) {
	r := New([]byte("seed"))
	for _, s := range []string{"", "abc", "\xff\x00", "a long password, longer than a block of sixty-four bytes, indeed so long"} {
		if r.Text(s, "salt") != mac.Text(s, "salt") || r.Text("pw", s) != mac.Text("pw", s) {
			t.Errorf("Text of %q", s)
		}
		k := api.Key(some(int64(len(s)), 16))
		if r.Derive(k, s) != mac.Derive(k, s) {
			t.Errorf("Derive of %q", s)
		}
	}
	for _, n := range []int{0, 1, 55, 56, 63, 64, 65, 1000} {
		d := sha256.Sum256(some(2, n))
		if b := r.Digest(some(2, n)); !slices.Equal(b, d[:16]) {
			t.Errorf("%d bytes: %x", n, b)
		}
	}
	if b := r.Digest(nil); fmt.Sprintf("%x", b) != "e3b0c44298fc1c149afbf4c8996fb924" {
		t.Errorf("digest of none: %x", b)
	}
}

func TestBoxes(t *testing.T) {
	r := New([]byte("seed"))
	number := uint64(0)
	for _, usage := range usages() {
		for _, n := range []int{0, 1, 3, 15, 16, 17, 31, 32, 33, 64, 500, 4096} {
			number++
			k, body := api.Key(some(int64(n), 16)), some(int64(usage), n)
			box := r.Seal(k, usage, body)
			if len(box) != n+24 || !slices.Equal(box, wantBox(k, usage, number, body)) {
				t.Errorf("usage %d, %d bytes: %x", usage, n, box)
			}
			if got, ok := r.Open(k, usage, box); !ok || !slices.Equal(got, body) {
				t.Errorf("usage %d, %d bytes: opened as %x, %v", usage, n, got, ok)
			}
			if got, ok := New(nil).Open(k, usage, box); !ok || !slices.Equal(got, body) {
				t.Errorf("usage %d, %d bytes: opened by another one as %x, %v", usage, n, got, ok)
			}
		}
	}
	if got, ok := r.Open(api.Key{1}, 2, wantBox(api.Key{1}, 2, math.MaxUint64, []byte("abc"))); !ok || string(got) != "abc" {
		t.Errorf("the greatest number: %q, %v", got, ok)
	}
}

// The box of abc has 27 bytes, and the number 1 if it is the first.
func TestExample(t *testing.T) {
	box := New(nil).Seal(api.Key{}, api.UseAp, []byte("abc"))
	if len(box) != 27 || !slices.Equal(box[:8], []byte{0, 0, 0, 0, 0, 0, 0, 1}) {
		t.Errorf("%x", box)
	}
}

// No changed bit, no other key or usage, and no other length opens a box.
func TestWrongBoxes(t *testing.T) {
	r := New([]byte("seed"))
	k := api.Key(some(1, 16))
	shut := func(what string, k api.Key, usage int, box []byte) {
		t.Helper()
		if b, ok := r.Open(k, usage, box); ok || b != nil {
			t.Errorf("%s: opened as %x, %v", what, b, ok)
		}
	}
	for _, n := range []int{0, 1, 16, 40} {
		box := r.Seal(k, 7, some(2, n))
		for i := range 8 * len(box) {
			b := slices.Clone(box)
			b[i/8] ^= 1 << (i % 8)
			shut(fmt.Sprintf("bit %d", i), k, 7, b)
		}
		for i := range 128 {
			other := k
			other[i/8] ^= 1 << (i % 8)
			shut(fmt.Sprintf("key with bit %d", i), other, 7, box)
		}
		for _, usage := range []int{-7, 0, 1, 2, 3, 6, 8, 11, 70, 77} {
			shut(fmt.Sprintf("usage %d", usage), k, usage, box)
		}
		for i := range box {
			shut(fmt.Sprintf("%d of %d bytes", i, len(box)), k, 7, box[:i])
			shut(fmt.Sprintf("the last %d of %d bytes", i, len(box)), k, 7, box[len(box)-i:])
		}
		shut("a byte more", k, 7, append(slices.Clone(box), 0))
		shut("a byte ahead", k, 7, append([]byte{0}, box...))
	}
	for n := range 60 {
		shut(fmt.Sprintf("%d zeros", n), k, 7, make([]byte, n))
	}
	shut("nil", api.Key{}, 0, nil)
}

// A code of fewer than eight bytes ahead of it is no box's, even if it is right.
func TestShortBoxes(t *testing.T) {
	r := New(nil)
	k := api.Key{9}
	m := r.Derive(k, "m3")
	for n := range 24 {
		if n >= 16 {
			b := some(int64(n), n-16)
			b = append(b, wantCode(m[:], b)...)
			if got, ok := r.Open(k, 3, b); ok || got != nil {
				t.Errorf("%d bytes: opened as %x, %v", n, got, ok)
			}
		}
	}
	b := make([]byte, 8)
	b = append(b, wantCode(m[:], b)...)
	if got, ok := r.Open(k, 3, b); !ok || len(got) != 0 {
		t.Errorf("24 bytes: opened as %x, %v", got, ok)
	}
}

// Nothing given is changed or kept, no answer is shared.
func TestNothingShared(t *testing.T) {
	seed := []byte("a seed")
	r, want := New(seed), New([]byte("a seed"))
	clear(seed)
	if r.Fresh() != want.Fresh() {
		t.Error("the keys hang on a seed that was changed")
	}
	k := api.Key{1}
	body := some(3, 50)
	whole := slices.Clone(body)
	box := r.Seal(k, 1, body[:40])
	shown := slices.Clone(box)
	if !slices.Equal(body, whole) {
		t.Error("Seal changed what it was given")
	}
	clear(body)
	first, _ := r.Open(k, 1, box)
	second, _ := r.Open(k, 1, box)
	if !slices.Equal(box, shown) {
		t.Error("Open changed what it was given")
	}
	clear(first)
	if !slices.Equal(second, whole[:40]) || !slices.Equal(box, shown) {
		t.Error("what was opened is shared")
	}
	clear(box)
	if !slices.Equal(second, whole[:40]) {
		t.Error("what was opened hangs on the box")
	}
	a, b := r.Digest(whole), r.Digest(whole)
	clear(a)
	_ = append(a, 1)
	if !slices.Equal(b, want.Digest(whole)) {
		t.Error("two digests share their bytes")
	}
}

// One provider's calls don't change another's.
func TestTwoProviders(t *testing.T) {
	a, b := New([]byte("x")), New([]byte("x"))
	for range 5 {
		a.Fresh()
		a.Seal(api.Key{}, 1, nil)
	}
	if b.Fresh() != New([]byte("x")).Fresh() || b.Seal(api.Key{}, 1, nil)[7] != 1 {
		t.Error("a provider goes on where another one is")
	}
}
