package mac

import (
	"bytes"
	"crypto/hmac"
	"crypto/pbkdf2"
	"crypto/sha256"
	"encoding/hex"
	"math/rand"
	"slices"
	"strings"
	"testing"

	"compeer/api"
)

// want is the code by the library's own hand.
func want(key []byte, b []byte) []byte {
	h := hmac.New(sha256.New, key)
	h.Write(b)
	return h.Sum(nil)
}

func wantDerived(k api.Key, label string) api.Key {
	return api.Key(want(k[:], append([]byte(label), 0, 1))[:16])
}

// some is so many bytes, another row for each length.
func some(n int) []byte {
	b := make([]byte, n)
	dice := rand.New(rand.NewSource(int64(n)))
	dice.Read(b)
	return b
}

func TestKnownCodes(t *testing.T) {
	count := make([]byte, 25)
	for i := range count {
		count[i] = byte(i + 1)
	}
	long := bytes.Repeat([]byte{0xaa}, 131)
	for i, c := range []struct {
		key        []byte
		text, want string
	}{
		{[]byte("key"), "The quick brown fox jumps over the lazy dog", "f7bc83f430538424b13298e6aa6fb143ef4d59a14946175997479dbc2d1a3cd8"},
		{nil, "", "b613679a0814d9ec772f95d778c35fc5ff1697c493715653c6c712144292c5ad"},
		{bytes.Repeat([]byte{0x0b}, 20), "Hi There", "b0344c61d8db38535ca8afceaf0bf12b881dc200c9833da726e9376c2e32cff7"},
		{[]byte("Jefe"), "what do ya want for nothing?", "5bdcc146bf60754e6a042426089575c75a003f089d2739839dec58b964ec3843"},
		{bytes.Repeat([]byte{0xaa}, 20), strings.Repeat("\xdd", 50), "773ea91e36800e46854db8ebd09181a72959098b3ef8c122d9635514ced565fe"},
		{count, strings.Repeat("\xcd", 50), "82558a389a443c0ea4cc819899f2083a85f0faa3e578f8077a2e3ff46729665b"},
		{long, "Test Using Larger Than Block-Size Key - Hash Key First", "60e431591ee0b67f0d8a26aacbf5b77f8e0bc6213728c5140546040f0ee37f54"},
		{
			long, "This is a test using a larger than block-size key and a larger than block-size data. The key needs to be hashed before being used by the HMAC algorithm.",
			"9b09ffa71b942fcb27635fbcd5b0e944bfdc63644f0713938a7f51535c3a35e2",
		},
	} {
		if b := hex.EncodeToString(Sum(c.key, []byte(c.text))); b != c.want {
			t.Errorf("case %d: %s", i, b)
		}
	}
}

// Keys of all lengths around a block's: of 64 bytes is the last that stands for itself.
func TestKeysAndLengths(t *testing.T) {
	for size := range 140 {
		for _, n := range []int{0, 1, 31, 32, 55, 56, 63, 64, 65, 119, 120, 128, 300, 4096} {
			if b := Sum(some(size), some(n)); len(b) != 32 || !slices.Equal(b, want(some(size), some(n))) {
				t.Errorf("a key of %d bytes, %d bytes: %x", size, n, b)
			}
		}
	}
	for _, size := range []int{1000, 4096, 1 << 18} {
		if !slices.Equal(Sum(some(size), some(9)), want(some(size), some(9))) {
			t.Errorf("a key of %d bytes", size)
		}
	}
	for i := range 256 {
		b := bytes.Repeat([]byte{byte(i)}, 64)
		if !slices.Equal(Sum(b, b), want(b, b)) || !slices.Equal(Sum(b[:16], b[:1]), want(b[:16], b[:1])) {
			t.Errorf("byte %d", i)
		}
	}
}

// A longer key is its digest, and zeros behind a shorter one make no other code.
func TestKeysThatAreAlike(t *testing.T) {
	long := some(65)
	d := sha256.Sum256(long)
	if !slices.Equal(Sum(long, []byte("x")), Sum(d[:], []byte("x"))) {
		t.Error("a key of 65 bytes isn't its digest")
	}
	b := some(64)
	d = sha256.Sum256(b)
	if slices.Equal(Sum(b, []byte("x")), Sum(d[:], []byte("x"))) {
		t.Error("a key of 64 bytes is its digest")
	}
	if !slices.Equal(Sum([]byte("key"), []byte("x")), Sum([]byte("key\x00\x00"), []byte("x"))) {
		t.Error("zeros behind a key")
	}
	if slices.Equal(Sum([]byte("key"), []byte("x")), Sum([]byte("\x00key"), []byte("x"))) {
		t.Error("zeros ahead of a key")
	}
}

// The code is of the rows together, however they are divided.
func TestRows(t *testing.T) {
	for _, size := range []int{0, 16, 64, 100} {
		key := some(size)
		for n := range 150 {
			b := some(n)
			w := want(key, b)
			for cut := 0; cut <= n; cut += 7 {
				if !slices.Equal(Sum(key, b[:cut], b[cut:]), w) || !slices.Equal(Sum(key, nil, b[:cut], []byte{}, b[cut:], nil), w) {
					t.Fatalf("%d bytes, cut at %d", n, cut)
				}
			}
			if !slices.Equal(Sum(key, slices.Collect(slices.Chunk(b, 3))...), w) {
				t.Fatalf("%d bytes, in parts of 3", n)
			}
		}
		for i, b := range [][]byte{Sum(key), Sum(key, nil), Sum(key, []byte{}), Sum(key, nil, []byte{}, nil)} {
			if !slices.Equal(b, want(key, nil)) {
				t.Errorf("no bytes, case %d: %x", i, b)
			}
		}
	}
}

// strange is texts of all kinds: also such as aren't UTF-8, and such as hold the bytes that follow them.
func strange() []string {
	list := []string{
		"", "a", "use", "next", "e1", "m-7", "\x00", "\x00\x01", "a\x00\x01", "a\x00\x00\x00\x01", "Ána-1", "\xff\xfe", "\xc3",
		"\xed\xa0\x80", "a\r\n\t", " a ", "世界",
	}
	for _, n := range []int{53, 54, 55, 61, 62, 63, 64, 65, 118, 128, 5000} {
		list = append(list, string(some(n)), strings.Repeat("p", n))
	}
	return list
}

func TestDerive(t *testing.T) {
	full := api.Key(bytes.Repeat([]byte{255}, 16))
	for _, k := range []api.Key{{}, {1}, {15: 1}, api.Key([]byte("0123456789abcdef")), full, api.Key(some(16))} {
		for _, label := range strange() {
			if d := Derive(k, label); d != wantDerived(k, label) {
				t.Errorf("%x, %.20q: %x", k, label, d)
			}
		}
	}
	if Derive(api.Key{}, "") != api.Key(Sum(nil, []byte{0, 1})[:16]) {
		t.Error("the key of zeros, no label")
	}
}

func TestText(t *testing.T) {
	for _, password := range strange() {
		for _, salt := range strange() {
			w, err := pbkdf2.Key(sha256.New, password, []byte(salt), 16, 16)
			if err != nil {
				t.Fatal(err)
			}
			if k := Text(password, salt); k != api.Key(w) {
				t.Errorf("%.20q, %.20q: %x", password, salt, k)
			}
		}
	}
}

// By the document's words: sixteen codes, each of the one before it, together.
func TestTextWordByWord(t *testing.T) {
	password := []byte("pass")
	code := want(password, []byte("ann\x00\x00\x00\x01"))
	all := slices.Clone(code)
	for range 15 {
		code = want(password, code)
		for i := range all {
			all[i] ^= code[i]
		}
	}
	if k := Text("pass", "ann"); k != api.Key(all[:16]) {
		t.Errorf("%x", k)
	}
}

// What makes a difference: each part, and which part it is.
func TestKeysDiffer(t *testing.T) {
	seen := map[api.Key]string{}
	tell := func(k api.Key, by string) {
		if other, ok := seen[k]; ok {
			t.Errorf("%s and %s: %x", other, by, k)
		}
		if k == (api.Key{}) {
			t.Errorf("%s: zeros", by)
		}
		seen[k] = by
	}
	for _, a := range []string{"", "a", "b", "ab", "ba", "use", "next"} {
		for _, b := range []string{"", "a", "b", "ab", "ba"} {
			tell(Text(a, b), "Text "+a+"/"+b)
		}
		tell(Derive(api.Key{}, a), "Derive 0/"+a)
		tell(Derive(api.Key{1}, a), "Derive 1/"+a)
		tell(Derive(api.Key{15: 1}, a), "Derive ..1/"+a)
	}
}

// Codes are new memory, what is given stays as it was, and the same call answers the same again.
func TestNothingIsShared(t *testing.T) {
	for _, size := range []int{0, 16, 32, 63, 64, 65, 200} {
		room := some(size + 300)
		kept := slices.Clone(room)
		key, b := room[:size], room[size:size+40]
		w := want(key, b)
		one, two := Sum(key, b), Sum(key, b[:10], b[10:])
		if !slices.Equal(room, kept) {
			t.Errorf("a key of %d bytes: what is given is changed", size)
		}
		clear(one)
		clear(room)
		if !slices.Equal(two, w) || !slices.Equal(Sum(kept[:size], kept[size:size+40]), w) {
			t.Errorf("a key of %d bytes: a code goes with another one, or with what was given", size)
		}
	}
	k := api.Key{1, 2, 3}
	if Derive(k, "x") != Derive(k, "x") || k != (api.Key{1, 2, 3}) || Text("p", "s") != Text("p", "s") {
		t.Error("the same call answers another key")
	}
}
