package sym

import (
	"bytes"
	"slices"

	"compeer/api"
	"compeer/octet"
)

// Table is all keys, boxes and digests that there are, each at its number less 1.
type Table struct {
	keys  []From
	boxes []Sealed
	sums  [][]byte
	found map[origin]api.Key
}

// origin is what a key is found by again: a key and a label, or a password and a salt.
type origin struct {
	from           From
	password, salt string
}

// New is an empty table.
func New() *Table { return &Table{found: map[origin]api.Key{}} }

// Fresh is a new key; Text that of a password, Derive that of a key.
func (t *Table) Fresh() api.Key { return t.made(From{}) }

func (t *Table) Text(password, salt string) api.Key {
	return t.once(origin{from: From{Text: true}, password: password, salt: salt})
}

func (t *Table) Derive(k api.Key, label string) api.Key {
	return t.once(origin{from: From{Of: k, Label: label}})
}

func (t *Table) made(f From) api.Key {
	t.keys = append(t.keys, f)
	return t.Nth(len(t.keys))
}

// once makes a key the first time alone.
func (t *Table) once(o origin) api.Key {
	k, ok := t.found[o]
	if !ok {
		k = t.made(o.from)
		t.found[o] = k
	}
	return k
}

// Seal is a new box.
func (t *Table) Seal(k api.Key, usage int, body []byte) []byte {
	t.boxes = append(t.boxes, Sealed{By: k, Usage: usage, Body: octet.Joined(body)})
	m := mark(Box, len(t.boxes))
	return m[:]
}

// Open is what is in a box; false: it is none of this key and usage.
func (t *Table) Open(k api.Key, usage int, box []byte) ([]byte, bool) {
	s, ok := t.Box(box)
	if !ok || s.By != k || s.Usage != usage {
		return nil, false
	}
	return s.Body, true
}

// Digest is a mark of bytes: the same each time.
func (t *Table) Digest(b []byte) []byte {
	i := slices.IndexFunc(t.sums, func(sum []byte) bool { return bytes.Equal(sum, b) })
	if i < 0 {
		i = len(t.sums)
		t.sums = append(t.sums, octet.Joined(b))
	}
	m := mark(Sum, i+1)
	return m[:]
}

// Box is what a box has, and by which key; false: there is no such one.
func (t *Table) Box(b []byte) (Sealed, bool) {
	kind, n, _ := Mark(b)
	if kind != Box || n < 1 || n > len(t.boxes) {
		return Sealed{}, false
	}
	s := t.boxes[n-1]
	s.Body = octet.Joined(s.Body)
	return s, true
}

// Came is how a key came; false: there is no such one.
func (t *Table) Came(k api.Key) (From, bool) {
	kind, n, _ := Mark(k[:])
	if kind != Key || n < 1 || n > len(t.keys) {
		return From{}, false
	}
	return t.keys[n-1], true
}

// Parent is the key that a key was derived of; false: it was of none. Came can't tell that: a key of the zero key and an empty label came as a fresh one does.
func (t *Table) Parent(k api.Key) (api.Key, bool) {
	f, _ := t.Came(k)
	same, ok := t.found[origin{from: f}]
	if !ok || same != k || f.Text {
		return api.Key{}, false
	}
	return f.Of, true
}

// Keys is how many keys there are, Boxes how many boxes; Nth the n-th key.
func (t *Table) Keys() int { return len(t.keys) }

func (t *Table) Boxes() int { return len(t.boxes) }

// Nth is the zero key for a number that no mark has.
func (t *Table) Nth(n int) api.Key {
	if n < 0 || int64(n) > greatest {
		return api.Key{}
	}
	return mark(Key, n)
}
