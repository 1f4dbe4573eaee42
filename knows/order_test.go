package knows

import (
	"bytes"
	"math/rand"
	"slices"
	"testing"

	"compeer/api"
	"compeer/octet"
	"compeer/sym"
)

// model is a mind by hand: it keeps what was done, and goes round and round until nothing more follows.
type model struct {
	t       *testing.T
	dice    *rand.Rand
	s       *sym.Table
	m       *Mind
	parents []derived
	sealed  []sym.Sealed
	learned []api.Key
	shown   [][]byte
	keys    map[api.Key]bool
	boxes   map[api.Key]bool
	texts   [][]byte
}

type derived struct{ of, k api.Key }

func (x *model) key() api.Key {
	if x.dice.Intn(8) == 0 {
		return []api.Key{{}, {1}, api.Key(mark('b', 2)), api.Key(mark('k', 0)), api.Key(mark('k', 500))}[x.dice.Intn(5)]
	}
	return keyMark(1 + x.dice.Intn(x.s.Keys()+2))
}

// text is some marks and letters.
func (x *model) text() []byte {
	var b []byte
	for range x.dice.Intn(4) {
		k := x.key()
		part := [][]byte{k[:], mark('b', 1+x.dice.Intn(x.s.Boxes()+2)), mark('d', 1), []byte("abc")[x.dice.Intn(3):]}[x.dice.Intn(4)]
		b = append(b, part...)
	}
	return b
}

func (x *model) step() {
	switch x.dice.Intn(12) {
	case 0, 1:
		x.s.Fresh()
	case 2:
		x.s.Text("password", "ab"[x.dice.Intn(2):])
	case 3, 4, 5:
		of := x.key()
		x.parents = append(x.parents, derived{of, x.s.Derive(of, "ab"[x.dice.Intn(3):])})
	case 6, 7, 8:
		by, body := x.key(), x.text()
		x.s.Seal(by, x.dice.Intn(3), body)
		x.sealed = append(x.sealed, sym.Sealed{By: by, Body: body})
	case 9, 10:
		b := x.text()
		x.m.See(b)
		x.shown = append(x.shown, b)
	case 11:
		if x.dice.Intn(3) == 0 {
			k := x.key()
			x.m.Learn(k)
			x.learned = append(x.learned, k)
		}
	}
}

func (x *model) see(b []byte) {
	x.texts = append(x.texts, b)
	for _, k := range sym.Find(b) {
		switch k[2] {
		case 'k':
			x.keys[k] = true
		case 'b':
			x.boxes[k] = true
		}
	}
}

// think is all that follows, from the start.
func (x *model) think() {
	x.keys, x.boxes, x.texts = map[api.Key]bool{}, map[api.Key]bool{}, nil
	for _, k := range x.learned {
		x.keys[k] = true
	}
	for _, b := range x.shown {
		x.see(b)
	}
	for before := -1; before < len(x.keys)+len(x.boxes)+len(x.texts); {
		before = len(x.keys) + len(x.boxes) + len(x.texts)
		for _, d := range x.parents {
			if x.keys[d.of] {
				x.keys[d.k] = true
			}
		}
		for n, box := range x.sealed {
			if x.boxes[api.Key(mark('b', n+1))] && x.keys[box.By] && !slices.ContainsFunc(x.texts, func(b []byte) bool { return bytes.Equal(b, box.Body) }) {
				x.see(box.Body)
			}
		}
	}
}

func (x *model) says(b []byte) bool {
	return slices.ContainsFunc(x.texts, func(text []byte) bool { return bytes.Contains(text, b) })
}

func (x *model) fits(b []byte) bool {
	for _, k := range sym.Find(b) {
		if k[2] == 'k' && !x.keys[k] || k[2] == 'b' && !x.boxes[k] {
			return false
		}
	}
	return true
}

// checkBoxes holds all boxes against what is thought, and one that isn't made.
func (x *model) checkBoxes() {
	for n := range len(x.sealed) + 1 {
		b := mark('b', n+1)
		opens := x.boxes[api.Key(b)] && n < len(x.sealed) && x.keys[x.sealed[n].By]
		if x.m.Opens(b) != opens || x.m.Box(b) != x.boxes[api.Key(b)] {
			x.t.Fatalf("box %d of %d", n+1, len(x.sealed))
		}
	}
}

func (x *model) checkKeys() {
	var want []api.Key
	for n := range x.s.Keys() {
		k := keyMark(n + 1)
		if x.m.Key(k) != x.keys[k] {
			x.t.Fatalf("key %d of %d: %v", n+1, x.s.Keys(), x.m.Key(k))
		}
		if x.keys[k] {
			want = append(want, k)
		}
	}
	if !slices.Equal(x.m.Keys(), want) {
		x.t.Fatalf("%v, not %v", x.m.Keys(), want)
	}
}

func (x *model) checkTexts() {
	for range 5 {
		b := x.text()
		part := b[x.dice.Intn(len(b)+1):]
		part = part[:x.dice.Intn(len(part)+1)]
		if x.m.Fits(b) != x.fits(b) || x.m.Says(b) != x.says(b) || x.m.Says(part) != x.says(part) {
			x.t.Fatalf("%v, part %v", b, part)
		}
	}
	for _, box := range x.sealed {
		if b := octet.Joined(box.Body); x.m.Says(b) != x.says(b) {
			x.t.Fatalf("%v", b)
		}
	}
}

// All calls, in every order; sometimes nothing is asked for long.
func TestEveryOrder(t *testing.T) {
	most := 0
	for seed := range 400 {
		s := sym.New()
		x := &model{t: t, dice: rand.New(rand.NewSource(int64(seed))), s: s, m: New(s)}
		for i := range 60 {
			x.step()
			if i != 59 && x.dice.Intn(1+seed%20) != 0 {
				continue
			}
			x.think()
			checks := []func(){x.checkKeys, x.checkBoxes, x.checkTexts}
			for _, c := range x.dice.Perm(3) {
				checks[c]()
			}
		}
		if n := len(x.m.Keys()); n > 0 && n < s.Keys() {
			most++
		}
	}
	if most < 100 {
		t.Errorf("only %d minds knew some keys and not all", most)
	}
}
