package knows

import (
	"slices"
	"testing"

	"compeer/api"
	"compeer/octet"
	"compeer/sym"
)

// mark is a mark by hand.
func mark(kind byte, n int) []byte {
	return octet.Joined([]byte{255, 254, kind, 0, 0, 0, 0, 0}, octet.Put(uint64(n)))
}

func keyMark(n int) api.Key { return api.Key(mark('k', n)) }

func known(t *testing.T, m *Mind, want bool, keys ...api.Key) {
	t.Helper()
	for i, k := range keys {
		if m.Key(k) != want {
			t.Errorf("key %d, %v: %v", i, k, !want)
		}
	}
}

func seen(t *testing.T, m *Mind, box []byte, seen, opens bool) {
	t.Helper()
	if m.Box(box) != seen || m.Opens(box) != opens {
		t.Errorf("box %v: %v, %v", box, m.Box(box), m.Opens(box))
	}
}

func TestNothing(t *testing.T) {
	s := sym.New()
	m := New(s)
	k := s.Fresh()
	d := s.Derive(api.Key{}, "")
	box := s.Seal(api.Key{}, 1, []byte("abc"))
	known(t, m, false, k, d, api.Key{}, keyMark(9))
	seen(t, m, box, false, false)
	if len(m.Keys()) != 0 || m.Says(nil) || m.Says([]byte{}) || m.Says([]byte("abc")) {
		t.Error("something is known")
	}
	if m.Fits(k[:]) || m.Fits(box) || !m.Fits(nil) || !m.Fits([]byte("abc")) || !m.Fits(s.Digest(nil)) {
		t.Error("Fits")
	}
}

// The document's example: a key in a box, and what is derived of it.
func TestBoxWithKey(t *testing.T) {
	for _, learn := range []bool{true, false} {
		s := sym.New()
		m := New(s)
		by, in, other := s.Fresh(), s.Fresh(), s.Fresh()
		heir := s.Derive(in, "x")
		second := s.Derive(heir, "y")
		box := s.Seal(by, 3, octet.Joined([]byte("the key "), in[:], []byte(" is in")))
		if learn {
			m.Learn(by)
			seen(t, m, box, false, false)
			known(t, m, false, in, heir, second)
		}
		m.See(octet.Joined([]byte("a box: "), box))
		if !learn {
			known(t, m, false, by, in, heir, second)
			seen(t, m, box, true, false)
			if m.Says([]byte("key")) || len(m.Keys()) != 0 || !m.Says([]byte("a box")) {
				t.Error("a shut box is read")
			}
			m.Learn(by)
		}
		seen(t, m, box, true, true)
		known(t, m, true, by, in, heir, second)
		known(t, m, false, other)
		if !slices.Equal(m.Keys(), []api.Key{by, in, heir, second}) {
			t.Errorf("%v", m.Keys())
		}
		if !m.Says([]byte("the key ")) || !m.Says(octet.Joined(in[8:], []byte(" is"))) || !m.Says(box) || m.Says([]byte("is in a box")) {
			t.Error("Says")
		}
	}
}

// What the table makes later follows too.
func TestLater(t *testing.T) {
	s := sym.New()
	m := New(s)
	k := s.Fresh()
	m.Learn(k)
	m.See(octet.Joined(mark('b', 2), mark('k', 4)))
	seen(t, m, mark('b', 1), false, false)
	seen(t, m, mark('b', 2), true, false)
	known(t, m, true, k, keyMark(4))
	known(t, m, false, keyMark(2), keyMark(3), keyMark(5))
	if !slices.Equal(m.Keys(), []api.Key{k}) {
		t.Errorf("%v", m.Keys())
	}
	a, b, c := s.Derive(k, "a"), s.Fresh(), s.Fresh()
	d := s.Derive(c, "d")
	known(t, m, true, a, c, d)
	known(t, m, false, b)
	s.Seal(k, 1, []byte("first"))
	seen(t, m, mark('b', 1), false, false)
	s.Seal(d, 1, octet.Joined(b[:], mark('b', 1)))
	seen(t, m, mark('b', 1), true, true)
	seen(t, m, mark('b', 2), true, true)
	known(t, m, true, b)
	if !m.Says([]byte("first")) || !slices.Equal(m.Keys(), []api.Key{k, a, b, c, d}) {
		t.Errorf("%v", m.Keys())
	}
}

// Each question alone finds what has come since the last one.
func TestEachQuestionIsUpToDate(t *testing.T) {
	made := func() (*sym.Table, *Mind, api.Key, []byte, []byte) {
		s := sym.New()
		m := New(s)
		k := s.Fresh()
		m.Learn(k)
		m.See(mark('b', 1))
		heir := s.Derive(k, "x")
		inner := mark('b', 2)
		outer := s.Seal(heir, 1, octet.Joined([]byte("text"), inner))
		s.Seal(k, 1, []byte("more"))
		return s, m, heir, outer, inner
	}
	if _, m, heir, _, _ := made(); !m.Key(heir) {
		t.Error("Key")
	}
	if _, m, heir, _, _ := made(); !slices.Contains(m.Keys(), heir) {
		t.Error("Keys")
	}
	if _, m, _, _, inner := made(); !m.Box(inner) {
		t.Error("Box")
	}
	if _, m, _, _, inner := made(); !m.Opens(inner) {
		t.Error("Opens")
	}
	if _, m, heir, outer, inner := made(); !m.Fits(octet.Joined(inner, heir[:], outer)) {
		t.Error("Fits")
	}
	if _, m, _, _, _ := made(); !m.Says([]byte("more")) {
		t.Error("Says")
	}
}

// A key is derived of another one before that one is made, of itself, or of one that is derived of it.
func TestDerivedOfLater(t *testing.T) {
	s := sym.New()
	m := New(s)
	first := s.Derive(keyMark(3), "x")
	self := s.Derive(keyMark(2), "self")
	third := s.Derive(keyMark(4), "y")
	fourth := s.Derive(third, "z")
	known(t, m, false, first, self, third, fourth)
	m.Learn(fourth)
	known(t, m, true, first, third, fourth)
	known(t, m, false, self)
	m.See(self[:])
	known(t, m, true, self)
}

// Keys may have any bytes; what was derived of the zero key with no label isn't a fresh one.
func TestAnyKey(t *testing.T) {
	s := sym.New()
	m := New(s)
	a := s.Fresh()
	zero := s.Derive(api.Key{}, "")
	b, text := s.Fresh(), s.Text("", "")
	letters := api.Key([]byte("sixteen letters!"))
	heir := s.Derive(letters, "")
	asBox := api.Key(mark('b', 1))
	ofBox := s.Derive(asBox, "x")
	box := s.Seal(letters, 1, []byte("abc"))
	m.See(letters[:])
	m.See(make([]byte, 64))
	known(t, m, false, letters, heir, api.Key{}, zero)
	m.Learn(api.Key{})
	known(t, m, true, api.Key{}, zero)
	known(t, m, false, a, b, text, heir)
	m.Learn(letters)
	known(t, m, true, letters, heir)
	seen(t, m, box, false, false)
	if !m.Fits(letters[:]) || !m.Says(letters[:]) || m.Says([]byte("abc")) || !slices.Equal(m.Keys(), []api.Key{zero, heir}) {
		t.Errorf("%v", m.Keys())
	}
	m.Learn(asBox)
	known(t, m, true, asBox, ofBox)
	seen(t, m, box, false, false)
	m.See(box)
	seen(t, m, box, true, true)
	known(t, m, false, a, b, text)
}

// A seen mark of a box isn't a known key, nor is one of a digest.
func TestOtherMarks(t *testing.T) {
	s := sym.New()
	m := New(s)
	box, sum := s.Seal(api.Key{}, 1, nil), s.Digest(nil)
	heirs := []api.Key{s.Derive(api.Key(box), "x"), s.Derive(api.Key(sum), "x")}
	m.See(octet.Joined(box, sum))
	known(t, m, false, append(heirs, api.Key(box), api.Key(sum))...)
	if m.Box(sum) || m.Opens(sum) || len(m.Keys()) != 0 {
		t.Error("a digest is a box")
	}
}

func TestWrongBoxes(t *testing.T) {
	s := sym.New()
	m := New(s)
	k := s.Fresh()
	box := s.Seal(k, 1, []byte("abc"))
	m.Learn(k)
	m.See(octet.Joined(k[:], box, mark('b', 0), mark('b', 1<<40), mark('d', 1)))
	seen(t, m, box, true, true)
	for _, b := range [][]byte{nil, box[:15], box[1:], append(slices.Clone(box), 0), append([]byte{0}, box...), k[:], mark('b', 2), mark('d', 1), mark('x', 1), mark('b', 1<<40+1), []byte("abc"), make([]byte, 16)} {
		seen(t, m, b, false, false)
	}
	// marks that no box has were seen, but are opened by nobody
	seen(t, m, mark('b', 0), true, false)
	seen(t, m, mark('b', 1<<40), true, false)
}

// Boxes that hold themselves or each other.
func TestRoundBoxes(t *testing.T) {
	s := sym.New()
	m := New(s)
	k, l := s.Fresh(), s.Fresh()
	own := s.Seal(k, 1, octet.Joined(mark('b', 1), mark('b', 1)))
	a := s.Seal(k, 1, octet.Joined(mark('b', 3), l[:]))
	b := s.Seal(l, 1, octet.Joined(a, k[:], own, l[:]))
	m.See(own)
	m.See(b)
	seen(t, m, own, true, false)
	seen(t, m, a, false, false)
	seen(t, m, b, true, false)
	m.Learn(l)
	for _, box := range [][]byte{own, a, b} {
		seen(t, m, box, true, true)
	}
	m.See(own)
	m.Learn(k)
	if !slices.Equal(m.Keys(), []api.Key{k, l}) {
		t.Errorf("%v", m.Keys())
	}
}

// A box that is sealed with a key in itself stays shut.
func TestLockedIn(t *testing.T) {
	s := sym.New()
	m := New(s)
	k := s.Fresh()
	l := s.Derive(k, "x")
	box := s.Seal(l, 1, octet.Joined([]byte("locked"), k[:], l[:]))
	m.See(box)
	seen(t, m, box, true, false)
	known(t, m, false, k, l)
	if m.Says([]byte("locked")) {
		t.Error("read")
	}
	m.Learn(k)
	seen(t, m, box, true, true)
}

func TestSays(t *testing.T) {
	m := New(sym.New())
	m.See(nil)
	if !m.Says(nil) || !m.Says([]byte{}) || m.Says([]byte{0}) {
		t.Error("no bytes were seen")
	}
	m.See([]byte("hello"))
	m.See([]byte("world"))
	for _, s := range []string{"", "h", "hello", "ell", "o", "world", "wor"} {
		if !m.Says([]byte(s)) {
			t.Errorf("%q isn't said", s)
		}
	}
	for _, s := range []string{"hello ", "helo", "ow", "helloworld", "Hello", "hello\x00", "\x00"} {
		if m.Says([]byte(s)) {
			t.Errorf("%q is said", s)
		}
	}
}

// Learned keys are known, but were not seen; what was told of them is told once it is opened.
func TestLearnSaysNothing(t *testing.T) {
	s := sym.New()
	m := New(s)
	k := s.Fresh()
	m.Learn(k)
	if m.Says(nil) || m.Says(k[:]) {
		t.Error("a learned key was seen")
	}
	m.See(s.Seal(k, 1, nil))
	if !m.Says(nil) || m.Says(k[:]) {
		t.Error("after a box was seen")
	}
}

func TestFits(t *testing.T) {
	s := sym.New()
	m := New(s)
	k, l := s.Fresh(), s.Fresh()
	a, b := s.Seal(l, 1, nil), s.Seal(l, 1, nil)
	m.Learn(k)
	m.See(a)
	sum := s.Digest([]byte("abc"))
	for i, c := range []struct {
		b    []byte
		fits bool
	}{
		{nil, true}, {[]byte("any text"), true}, {k[:], true}, {l[:], false}, {a, true}, {b, false}, {sum, true}, {mark('d', 77), true},
		{octet.Joined(k[:], a, sum, k[:]), true}, {octet.Joined(k[:], a, l[:]), false}, {octet.Joined(b, k[:]), false}, {octet.Joined([]byte{255}, l[:], []byte{9}), false},
		{l[:15], true}, {b[1:], true}, {mark('k', 3), false}, {mark('b', 3), false}, {mark('x', 1), true}, {mark('k', 0), false}, {mark('k', 1<<40+1), true},
	} {
		if m.Fits(c.b) != c.fits {
			t.Errorf("case %d: %v", i, !c.fits)
		}
	}
	// a mark that begins in another one's number counts too
	long := mark('k', 0)
	copy(long[12:], b)
	m.Learn(api.Key(long))
	if !m.Fits(long) || m.Fits(octet.Joined(long, b[4:])) || !m.Fits(octet.Joined(long, a[4:])) {
		t.Error("marks in marks")
	}
}

// Keys are told by number, from whatever order they were learned in.
func TestKeysInOrder(t *testing.T) {
	s := sym.New()
	m := New(s)
	var want []api.Key
	for range 700 {
		want = append(want, s.Fresh())
	}
	for i := range want {
		m.Learn(want[i*331%700])
	}
	for _, k := range []api.Key{{}, {1}, keyMark(0), keyMark(701), keyMark(1 << 40), api.Key(mark('b', 1))} {
		m.Learn(k)
	}
	if !slices.Equal(m.Keys(), want) {
		t.Error("not in order")
	}
	if s.Fresh(); !slices.Equal(m.Keys(), append(want, keyMark(701))) {
		t.Error("a key that was known ahead")
	}
}

// Nothing given is changed or kept, no answer is shared, the table stays as it is.
func TestNothingShared(t *testing.T) {
	s := sym.New()
	m := New(s)
	k := s.Fresh()
	box := s.Seal(k, 1, []byte("in it"))
	text := octet.Joined([]byte("text"), box, k[:])
	whole := slices.Clone(text)
	m.See(text)
	m.Fits(text)
	m.Says(text)
	if !slices.Equal(text, whole) {
		t.Error("See changed what it was given")
	}
	clear(text)
	if !m.Says(whole) || m.Says(text) || !m.Says([]byte("in it")) {
		t.Error("what was seen hangs on what was given")
	}
	keys := m.Keys()
	clear(keys)
	if !slices.Equal(m.Keys(), []api.Key{k}) || !m.Key(k) {
		t.Error("Keys are shared")
	}
	if s.Keys() != 1 || s.Boxes() != 1 || s.Fresh() != keyMark(2) {
		t.Error("the table has more than was made")
	}
}

// Two minds of one table know what each has seen.
func TestTwoMinds(t *testing.T) {
	s := sym.New()
	a, b := New(s), New(s)
	k := s.Fresh()
	a.Learn(k)
	a.See([]byte("abc"))
	b.See(s.Seal(k, 1, []byte("def")))
	known(t, b, false, k)
	if b.Says([]byte("abc")) || a.Says([]byte("def")) {
		t.Error("one mind knows the other's")
	}
}

// Long rows of boxes and keys, each of which leads to the next, whichever end is seen first.
func TestLongRows(t *testing.T) {
	const most = 20000
	for _, backward := range []bool{true, false} {
		s := sym.New()
		m := New(s)
		start := s.Fresh()
		k := start
		var boxes [][]byte
		for range most {
			k = s.Derive(k, "next")
			next := s.Fresh()
			boxes = append(boxes, s.Seal(k, 1, next[:]))
			k = next
		}
		if backward {
			slices.Reverse(boxes)
		}
		for _, b := range boxes {
			m.See(b)
		}
		known(t, m, false, k, start)
		m.Learn(start)
		known(t, m, true, k, start)
		if len(m.Keys()) != 2*most+1 {
			t.Errorf("%d keys", len(m.Keys()))
		}
	}
}
