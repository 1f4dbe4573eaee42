package sym

import (
	"fmt"
	"math"
	"math/rand"
	"slices"
	"strings"
	"testing"

	"compeer/api"
)

var _ api.Provider = (*Table)(nil)

// anyKeys are keys that aren't the table's, and some that are.
func anyKeys() []api.Key {
	return []api.Key{
		{}, {1}, {15: 1}, api.Key([]byte("sixteen letters!")), api.Key(want('b', 1)), api.Key(want('d', 1)), api.Key(want('x', 1)),
		wantKey(0), wantKey(1), wantKey(2), wantKey(1 << 40), api.Key(want('k', 1<<40+1)),
	}
}

// Fresh keys, keys of passwords and derived keys are numbered together, in the order in which they are made.
func TestKeysAreNumbered(t *testing.T) {
	s := New()
	for i := 0; i < 300; i += 3 {
		a, b := s.Fresh(), s.Text("password", fmt.Sprint(i))
		c := s.Derive(a, "label")
		if a != wantKey(i+1) || b != wantKey(i+2) || c != wantKey(i+3) || s.Keys() != i+3 || s.Boxes() != 0 {
			t.Fatalf("%d: %v %v %v, %d keys", i, a, b, c, s.Keys())
		}
	}
}

// What is made of the same is the same again; what is made of other things isn't.
func TestMadeOnce(t *testing.T) {
	s := New()
	texts := []string{"", "a", "b", "ab", "\x00", "a\x00", "\xff", "é", "1", "1:a", ":", strings.Repeat("long", 5000)}
	made := 0
	for again := range 3 {
		n := 0
		check := func(k api.Key, what ...any) {
			n++
			if k != wantKey(n) {
				t.Fatalf("time %d, %q: %v, not number %d", again, what, k, n)
			}
		}
		for _, a := range texts {
			for _, b := range texts {
				check(s.Text(a, b), a, b)
			}
			for _, k := range anyKeys() {
				check(s.Derive(k, a), k, a)
			}
		}
		made = n
	}
	if s.Keys() != made || s.Fresh() != wantKey(made+1) {
		t.Errorf("%d keys of %d", s.Keys(), made)
	}
}

func TestDeriveOfDerived(t *testing.T) {
	s := New()
	k := s.Fresh()
	for n := 2; n < 100; n++ {
		k = s.Derive(k, "next")
		if k != wantKey(n) {
			t.Fatalf("%d: %v", n, k)
		}
	}
	if s.Derive(wantKey(1), "next") != wantKey(2) || s.Derive(wantKey(98), "next") != wantKey(99) || s.Keys() != 99 {
		t.Error("a key is made twice")
	}
	// a key may be derived of one that isn't made yet
	if s.Derive(wantKey(101), "x") != wantKey(100) || s.Fresh() != wantKey(101) || s.Derive(wantKey(101), "x") != wantKey(100) {
		t.Error("of a later key")
	}
}

func TestCame(t *testing.T) {
	s := New()
	var list []From
	for _, k := range anyKeys() {
		for _, label := range []string{"", "label", "\xff"} {
			s.Derive(k, label)
			list = append(list, From{Of: k, Label: label})
		}
		s.Fresh()
		list = append(list, From{})
	}
	for i, want := range list {
		if f, ok := s.Came(wantKey(i + 1)); f != want || !ok {
			t.Errorf("%d: %v, %v", i+1, f, ok)
		}
	}
	if f, ok := s.Came(s.Text("password", "salt")); !f.Text || f.Of != (api.Key{}) || !ok {
		t.Errorf("of a password: %v, %v", f, ok)
	}
	if f, ok := s.Came(s.Text("", "")); !f.Text || !ok {
		t.Errorf("of an empty password: %v, %v", f, ok)
	}
	n := s.Keys()
	b := s.Seal(api.Key{}, 0, nil)
	for _, k := range []api.Key{{}, {1}, wantKey(0), wantKey(n + 1), wantKey(1 << 40), api.Key(b), api.Key(s.Digest(nil)), api.Key(want('k', 1<<40+1))} {
		if f, ok := s.Came(k); ok || f != (From{}) {
			t.Errorf("%v: %v, %v", k, f, ok)
		}
	}
	if f, ok := New().Came(wantKey(1)); ok || f != (From{}) {
		t.Errorf("in an empty table: %v, %v", f, ok)
	}
}

// Parent tells a fresh key from one of the zero key and an empty label, of which Came says the same.
func TestParent(t *testing.T) {
	for _, ahead := range []bool{true, false} {
		s := New()
		var fresh, derived []api.Key
		var of []api.Key
		if ahead {
			fresh = append(fresh, s.Fresh())
		}
		for _, k := range anyKeys() {
			for _, label := range []string{"", "label"} {
				derived, of = append(derived, s.Derive(k, label)), append(of, k)
				fresh = append(fresh, s.Fresh())
			}
		}
		fresh = append(fresh, s.Text("", ""), s.Text("a", "b"), wantKey(0), wantKey(s.Keys()+3), api.Key{}, api.Key{5}, api.Key(s.Seal(api.Key{}, 0, nil)))
		for i, k := range derived {
			if p, ok := s.Parent(k); p != of[i] || !ok {
				t.Errorf("derived key %d: %v, %v", i, p, ok)
			}
		}
		for i, k := range fresh {
			if p, ok := s.Parent(k); p != (api.Key{}) || ok {
				t.Errorf("other key %d: %v, %v", i, p, ok)
			}
		}
	}
}

func TestSeal(t *testing.T) {
	s := New()
	if b := s.Seal(api.Key{}, 1, nil); !slices.Equal(b, []byte{255, 254, 98, 0, 0, 0, 0, 0, 0, 0, 0, 0, 0, 0, 0, 1}) {
		t.Errorf("the first box: %v", b)
	}
	n := 1
	for _, k := range anyKeys() {
		for _, usage := range []int{0, 1, -1, api.UseRecord, math.MaxInt, math.MinInt} {
			for _, body := range [][]byte{nil, {0}, []byte("abc"), []byte("abc"), want('k', 5), make([]byte, 5000)} {
				n++
				b := s.Seal(k, usage, body)
				if !slices.Equal(b, want('b', uint64(n))) || s.Boxes() != n || s.Keys() != 0 {
					t.Fatalf("box %d: %v, %d boxes", n, b, s.Boxes())
				}
				if got, ok := s.Open(k, usage, b); !ok || !slices.Equal(got, body) {
					t.Errorf("box %d: opened as %v, %v", n, got, ok)
				}
				if x, ok := s.Box(b); !ok || x.By != k || x.Usage != usage || !slices.Equal(x.Body, body) {
					t.Errorf("box %d: %v, %v", n, x, ok)
				}
			}
		}
	}
}

func noBox(t *testing.T, s *Table, b []byte) {
	t.Helper()
	if x, ok := s.Box(b); ok || x.By != (api.Key{}) || x.Usage != 0 || len(x.Body) != 0 {
		t.Errorf("%v: %v, %v", b, x, ok)
	}
	shut(t, s, api.Key{1}, 7, b)
}

func shut(t *testing.T, s *Table, k api.Key, usage int, b []byte) {
	t.Helper()
	if got, ok := s.Open(k, usage, b); ok || got != nil {
		t.Errorf("%v with %v for %d: opened as %v, %v", b, k, usage, got, ok)
	}
}

func TestNoBox(t *testing.T) {
	s := New()
	noBox(t, s, want('b', 1))
	k := api.Key{1}
	b := s.Seal(k, 7, []byte("abc"))
	s.Seal(k, 7, nil)
	for range 5 {
		s.Digest([]byte{byte(s.Keys())})
		s.Fresh()
	}
	for n := range b {
		noBox(t, s, b[:n])
		noBox(t, s, b[16-n:])
		other := slices.Clone(b)
		other[n] ^= 128
		noBox(t, s, other)
	}
	for _, x := range [][]byte{nil, append(slices.Clone(b), 0), append([]byte{0}, b...), want('b', 0), want('b', 3), want('b', 1<<40), want('b', 1<<40+1), want('k', 1), want('d', 1), want('x', 1), []byte("abc"), k[:]} {
		noBox(t, s, x)
	}
	for _, usage := range []int{0, 1, 6, 8, -7, 7 + 1<<32} {
		shut(t, s, k, usage, b)
	}
	for i := range 128 {
		other := k
		other[i/8] ^= 1 << (i % 8)
		shut(t, s, other, 7, b)
	}
	if s.Boxes() != 2 || s.Keys() != 5 {
		t.Errorf("%d boxes, %d keys", s.Boxes(), s.Keys())
	}
}

func TestDigest(t *testing.T) {
	s := New()
	var rows [][]byte
	for _, r := range []string{"", "\x00", "\x00\x00", "a", "b", "ab", "ba", "\xff\xfe"} {
		rows = append(rows, []byte(r))
	}
	rows = append(rows, want('d', 1), want('d', 2), want('b', 1), make([]byte, 4096), make([]byte, 4097))
	for range 3 {
		for i, r := range rows {
			if d := s.Digest(r); !slices.Equal(d, want('d', uint64(i+1))) {
				t.Errorf("bytes %d: %v", i, d)
			}
		}
	}
	if !slices.Equal(s.Digest(nil), want('d', 1)) || s.Keys() != 0 || s.Boxes() != 0 {
		t.Error("nil is other than no bytes, or a digest is numbered as a key or a box")
	}
}

// Nothing given is changed or kept, no answer is shared.
func TestNothingShared(t *testing.T) {
	s := New()
	k := api.Key{1}
	whole := []byte("some bytes, and some more")
	body := slices.Clone(whole)
	b, d := s.Seal(k, 1, body[:10]), s.Digest(body[:10])
	if !slices.Equal(body, whole) {
		t.Error("Seal or Digest changed what it was given")
	}
	clear(body)
	if !slices.Equal(s.Digest(whole[:10]), d) {
		t.Error("a digest hangs on what was given")
	}
	first, _ := s.Open(k, 1, b)
	second, _ := s.Open(k, 1, b)
	x, _ := s.Box(b)
	y, _ := s.Box(b)
	clear(first)
	clear(x.Body)
	_ = append(x.Body[:5], 1, 2, 3)
	third, _ := s.Open(k, 1, b)
	for _, got := range [][]byte{second, y.Body, third} {
		if !slices.Equal(got, whole[:10]) {
			t.Errorf("what was opened is shared: %v", got)
		}
	}
	clear(b)
	clear(d)
	if !slices.Equal(s.Digest(whole[:10]), want('d', 1)) || !slices.Equal(s.Seal(k, 1, nil), want('b', 2)) {
		t.Error("marks are shared")
	}
	if got, ok := s.Open(k, 1, want('b', 1)); !ok || !slices.Equal(got, whole[:10]) {
		t.Error("a box hangs on the mark that was given out")
	}
	marks := slices.Concat(want('k', 1), want('b', 1))
	list := Find(marks)
	clear(marks)
	if !slices.Equal(list, []api.Key{wantKey(1), api.Key(want('b', 1))}) {
		t.Error("Find gives what it was given")
	}
}

// One table's calls don't change another's.
func TestTwoTables(t *testing.T) {
	a, b := New(), New()
	k := a.Derive(a.Fresh(), "x")
	a.Seal(k, 1, []byte("abc"))
	a.Digest([]byte("abc"))
	if b.Keys() != 0 || b.Boxes() != 0 || b.Derive(k, "y") != wantKey(1) || !slices.Equal(b.Digest(nil), want('d', 1)) {
		t.Error("a table goes on where another one is")
	}
	noBox(t, b, want('b', 1))
}

// model is a table by hand, with lists alone.
type model struct {
	t       *testing.T
	s       *Table
	dice    *rand.Rand
	origins []string
	came    []From
	boxes   []Sealed
	sums    []string
}

func (m *model) check(k api.Key, of string, f From) {
	m.t.Helper()
	n := slices.Index(m.origins, of)
	if of == "" || n < 0 {
		n = len(m.origins)
		m.origins, m.came = append(m.origins, of), append(m.came, f)
	}
	if k != wantKey(n+1) {
		m.t.Fatalf("%q: %v, not number %d", of, k, n+1)
	}
}

func (m *model) key() api.Key {
	if m.dice.Intn(4) == 0 {
		return anyKeys()[m.dice.Intn(len(anyKeys()))]
	}
	return wantKey(m.dice.Intn(30))
}

func (m *model) text() string { return []string{"", "a", "b", "ab", "c"}[m.dice.Intn(5)] }

func (m *model) step() {
	k, a, b, usage := m.key(), m.text(), m.text(), m.dice.Intn(2)
	switch m.dice.Intn(6) {
	case 0:
		m.check(m.s.Fresh(), "", From{})
	case 1:
		m.check(m.s.Text(a, b), fmt.Sprintf("text %q %q", a, b), From{Text: true})
	case 2:
		m.check(m.s.Derive(k, a), fmt.Sprintf("of %v %q", k, a), From{Of: k, Label: a})
	case 3:
		m.boxes = append(m.boxes, Sealed{k, usage, []byte(a + b)})
		if box := m.s.Seal(k, usage, []byte(a+b)); !slices.Equal(box, want('b', uint64(len(m.boxes)))) {
			m.t.Fatalf("%v", box)
		}
	case 4:
		if !slices.Contains(m.sums, a+b) {
			m.sums = append(m.sums, a+b)
		}
		if d := m.s.Digest([]byte(a + b)); !slices.Equal(d, want('d', uint64(slices.Index(m.sums, a+b)+1))) {
			m.t.Fatalf("%v", d)
		}
	case 5:
		n := m.dice.Intn(len(m.boxes) + 2)
		box := want('b', uint64(n))
		there := n > 0 && n <= len(m.boxes)
		opens := there && m.boxes[n-1].By == k && m.boxes[n-1].Usage == usage
		if body, ok := m.s.Open(k, usage, box); ok != opens || ok && !slices.Equal(body, m.boxes[n-1].Body) {
			m.t.Fatalf("box %d: %v, %v", n, body, ok)
		}
		if _, ok := m.s.Box(box); ok != there {
			m.t.Fatalf("box %d: %v", n, ok)
		}
	}
}

func (m *model) end() {
	if m.s.Keys() != len(m.came) || m.s.Boxes() != len(m.boxes) {
		m.t.Fatalf("%d keys, %d boxes", m.s.Keys(), m.s.Boxes())
	}
	for i, want := range m.came {
		f, ok := m.s.Came(m.s.Nth(i + 1))
		if !ok || f.Text != want.Text || !f.Text && f != want {
			m.t.Fatalf("key %d: %v, %v", i+1, f, ok)
		}
	}
	for i, w := range m.boxes {
		if x, ok := m.s.Box(want('b', uint64(i+1))); !ok || x.By != w.By || x.Usage != w.Usage || !slices.Equal(x.Body, w.Body) {
			m.t.Fatalf("box %d: %v, %v", i+1, x, ok)
		}
	}
}

// All calls, in every order.
func TestEveryOrder(t *testing.T) {
	for seed := range 300 {
		m := &model{t: t, s: New(), dice: rand.New(rand.NewSource(int64(seed)))}
		for range seed % 120 {
			m.step()
		}
		m.end()
	}
}
