package aes

import (
	"bytes"
	stdaes "crypto/aes"
	"crypto/cipher"
	"encoding/hex"
	"math/rand"
	"slices"
	"testing"

	"compeer/api"
)

// some is so many bytes, another row for each seed.
func some(seed int64, n int) []byte {
	b := make([]byte, n)
	rand.New(rand.NewSource(seed)).Read(b)
	return b
}

func block(text string) [16]byte {
	b, err := hex.DecodeString(text)
	if err != nil {
		panic(err)
	}
	return [16]byte(b)
}

// wantBlock is a block by the library's own hand.
func wantBlock(k api.Key, b [16]byte) [16]byte {
	c, err := stdaes.NewCipher(k[:])
	if err != nil {
		panic(err)
	}
	c.Encrypt(b[:], b[:])
	return b
}

// wantStream is a stream by the library's own hand.
func wantStream(k api.Key, from [16]byte, b []byte) []byte {
	c, err := stdaes.NewCipher(k[:])
	if err != nil {
		panic(err)
	}
	to := make([]byte, len(b))
	cipher.NewCTR(c, from[:]).XORKeyStream(to, b)
	return to
}

func TestKnownBlocks(t *testing.T) {
	for _, c := range []struct{ key, from, to string }{
		{"000102030405060708090a0b0c0d0e0f", "00112233445566778899aabbccddeeff", "69c4e0d86a7b0430d8cdb78070b4c55a"},
		{"2b7e151628aed2a6abf7158809cf4f3c", "3243f6a8885a308d313198a2e0370734", "3925841d02dc09fbdc118597196a0b32"},
		{"2b7e151628aed2a6abf7158809cf4f3c", "6bc1bee22e409f96e93d7e117393172a", "3ad77bb40d7a3660a89ecaf32466ef97"},
		{"00000000000000000000000000000000", "00000000000000000000000000000000", "66e94bd4ef8a2c3b884cfa59ca342b2e"},
		{"ffffffffffffffffffffffffffffffff", "00000000000000000000000000000000", "a1f6258c877d5fcd8964484538bfc92c"},
	} {
		b := New(api.Key(block(c.key))).Block(block(c.from))
		if s := hex.EncodeToString(b[:]); s != c.to {
			t.Errorf("%s, %s: %s", c.key, c.from, s)
		}
	}
}

// Each bit of a key and of a block, each byte at each place, and many by chance.
func TestBlocks(t *testing.T) {
	check := func(k api.Key, b [16]byte) {
		if to := New(k).Block(b); to != wantBlock(k, b) {
			t.Errorf("%x, %x: %x", k, b, to)
		}
	}
	for i := range 128 {
		var b [16]byte
		b[i/8] = 1 << (i % 8)
		check(api.Key(b), [16]byte{})
		check(api.Key{}, b)
		check(api.Key(b), b)
	}
	for place := range 16 {
		for i := range 256 {
			b := [16]byte(some(int64(place), 16))
			b[place] = byte(i)
			check(api.Key(some(5, 16)), b)
			check(api.Key(b), [16]byte(some(6, 16)))
		}
	}
	for i := range 2000 {
		check(api.Key(some(int64(i), 16)), [16]byte(some(int64(-i-1), 16)))
	}
}

// A block hangs on the key and on itself, not on what was asked before.
func TestBlocksAgain(t *testing.T) {
	k, b := api.Key(some(1, 16)), [16]byte(some(2, 16))
	c := New(k)
	for i := range 20 {
		c.Block([16]byte(some(int64(i), 16)))
		c.Stream([16]byte(some(int64(i), 16)), some(3, i))
		New(api.Key(some(int64(i), 16)))
		if c.Block(b) != wantBlock(k, b) {
			t.Fatalf("after %d other blocks", i)
		}
	}
	for range 1000 {
		b = c.Block(b)
	}
	w := [16]byte(some(2, 16))
	for range 1000 {
		w = wantBlock(k, w)
	}
	if b != w {
		t.Error("a thousand blocks of blocks")
	}
}

func TestKnownStream(t *testing.T) {
	b, _ := hex.DecodeString("6bc1bee22e409f96e93d7e117393172aae2d8a571e03ac9c9eb76fac45af8e5130c81c46a35ce411e5fbc1191a0a52eff69f2445df4f9b17ad2b417be66c3710")
	const want = "874d6191b620e3261bef6864990db6ce9806f66b7970fdff8617187bb9fffdff5ae4df3edbd5d35e5b4f09020db03eab1e031dda2fbe03d1792170a0f3009cee"
	c := New(api.Key(block("2b7e151628aed2a6abf7158809cf4f3c")))
	from := block("f0f1f2f3f4f5f6f7f8f9fafbfcfdfeff")
	to := c.Stream(from, b)
	if hex.EncodeToString(to) != want {
		t.Errorf("%x", to)
	}
	if !slices.Equal(c.Stream(from, to), b) {
		t.Error("a stream's stream isn't what it was")
	}
}

// Streams of all lengths around a block's end, from counters that carry over each byte.
func TestStreams(t *testing.T) {
	k := api.Key(some(7, 16))
	c := New(k)
	froms := [][16]byte{{}, [16]byte(some(8, 16)), {0: 0x80}, {15: 0xfe}}
	for n := range 17 {
		var from [16]byte
		for i := 16 - n; i < 16; i++ {
			from[i] = 0xff
		}
		froms = append(froms, from)
		if n < 16 {
			from[15-n] = 0x7f
			froms = append(froms, from)
		}
	}
	for _, from := range froms {
		for _, n := range []int{0, 1, 2, 15, 16, 17, 31, 32, 33, 47, 48, 64, 100, 1000, 16 * 300, 16*300 + 5} {
			b := some(int64(n), n)
			if to := c.Stream(from, b); len(to) != n || !slices.Equal(to, wantStream(k, from, b)) {
				t.Errorf("from %x, %d bytes", from, n)
			}
		}
	}
	if b := some(9, 1<<20+3); !slices.Equal(c.Stream([16]byte{14: 0xff}, b), wantStream(k, [16]byte{14: 0xff}, b)) {
		t.Error("a million bytes")
	}
}

// The greatest counter is followed by 0.
func TestGreatestCounter(t *testing.T) {
	c := New(api.Key{1})
	greatest := [16]byte(bytes.Repeat([]byte{0xff}, 16))
	to := c.Stream(greatest, make([]byte, 48))
	for i, from := range [][16]byte{greatest, {}, {15: 1}} {
		if b := c.Block(from); !slices.Equal(to[16*i:16*i+16], b[:]) {
			t.Errorf("block %d: %x", i, to[16*i:16*i+16])
		}
	}
}

// Streams of no bytes are none, of nil as of an empty list.
func TestEmptyStream(t *testing.T) {
	c := New(api.Key{1})
	if len(c.Stream([16]byte{}, nil)) != 0 || len(c.Stream([16]byte{1}, []byte{})) != 0 {
		t.Error("bytes of none")
	}
}

// Nothing given is changed, no answer is shared.
func TestNothingShared(t *testing.T) {
	k := api.Key(some(1, 16))
	c := New(k)
	b := some(2, 50)
	whole := slices.Clone(b)
	to := c.Stream([16]byte{}, b[:40])
	if !slices.Equal(b, whole) {
		t.Error("Stream changed what it was given")
	}
	want := slices.Clone(to)
	clear(b)
	if !slices.Equal(to, want) {
		t.Error("a stream hangs on what was given")
	}
	other := c.Stream([16]byte{}, whole[:40])
	clear(to)
	to = append(to[:10], 1, 2, 3)
	if !slices.Equal(other, want) || !slices.Equal(c.Stream([16]byte{}, whole[:40]), want) {
		t.Error("two streams share their bytes")
	}
	if New(k) == New(k) {
		t.Error("two ciphers are one")
	}
}
