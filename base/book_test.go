package base

import (
	"math"
	"math/rand"
	"strconv"
	"testing"

	"compeer/api"
)

func sets(t *testing.T, b *Book, now int64, s string, till int64, want api.Errno) {
	t.Helper()
	if e := b.Set(now, s, till); e != want {
		t.Errorf("%q till %d at %d: %d, not %d", s, till, now, e, want)
	}
}

// meets looks twice, for looking changes nothing.
func meets(t *testing.T, b *Book, now int64, s string, till int64) {
	t.Helper()
	for range 2 {
		if got, ok := b.Find(now, s); got != till || !ok {
			t.Errorf("%q at %d: %d, %v, not %d", s, now, got, ok, till)
		}
	}
}

func misses(t *testing.T, b *Book, now int64, names ...string) {
	t.Helper()
	for _, s := range names {
		for range 2 {
			if got, ok := b.Find(now, s); got != 0 || ok {
				t.Errorf("%q at %d: %d, %v", s, now, got, ok)
			}
		}
	}
}

func TestExample(t *testing.T) {
	b := NewBook()
	sets(t, b, 5, "ann", 9, api.OK)
	meets(t, b, 5, "ann", 9)
	meets(t, b, 8, "ann", 9)
	misses(t, b, 9, "ann")
	misses(t, b, 10, "ann")
}

func TestNewBook(t *testing.T) {
	b := NewBook()
	for _, now := range []int64{math.MinInt64, -1, 0, 1, math.MaxInt64} {
		misses(t, b, now, wrongNames()...)
		misses(t, b, now, rightNames()...)
	}
}

// A user is found by the whole name alone.
func TestFindByName(t *testing.T) {
	b := NewBook()
	for i, s := range rightNames() {
		sets(t, b, 5, s, int64(10+i), api.OK)
	}
	for i, s := range rightNames() {
		meets(t, b, 5, s, int64(10+i))
	}
	misses(t, b, 5, wrongNames()...)
	misses(t, b, 5, "an", "annn", "ann1", "ANN", "nn", "\u00E1na", "zoe")
}

// What is no name is told first, whether the time is over or there is no room, and changes nothing.
func TestBookNamesThatAreNone(t *testing.T) {
	b := NewBook()
	for _, till := range []int64{4, 5, 6, math.MinInt64, math.MaxInt64} {
		for _, s := range wrongNames() {
			sets(t, b, 5, s, till, api.ErrName)
			misses(t, b, 5, s)
		}
	}
	for i, s := range crowd(32) {
		sets(t, b, 5, s, int64(10+i), api.OK)
	}
	for _, till := range []int64{4, 5, 6} {
		for _, s := range append(wrongNames(), "U1", "u1 ") {
			sets(t, b, 5, s, till, api.ErrName)
			misses(t, b, 5, s)
		}
	}
	for i, s := range crowd(32) {
		meets(t, b, 5, s, int64(10+i))
	}
}

// A time that isn't later than now ends what was recorded, of that user alone.
func TestOver(t *testing.T) {
	for _, till := range []int64{math.MinInt64, -1, 0, 10, 19, 20} {
		b := NewBook()
		sets(t, b, 20, "ann", till, api.ErrExpired) // was never there
		misses(t, b, 20, "ann")
		sets(t, b, 20, "ann", 50, api.OK)
		sets(t, b, 20, "anna", 60, api.OK)
		sets(t, b, 20, "ann", till, api.ErrExpired)
		misses(t, b, 20, "ann")
		meets(t, b, 20, "anna", 60)
		sets(t, b, 20, "ann", till, api.ErrExpired)
		misses(t, b, 20, "ann")
		sets(t, b, 20, "ann", 21, api.OK)
		meets(t, b, 20, "ann", 21)
		misses(t, b, 21, "ann")
		sets(t, b, 21, "ann", till, api.ErrExpired) // was over by itself
		misses(t, b, 21, "ann")
		meets(t, b, 59, "anna", 60)
	}
}

// What is told last holds, be it earlier or later than before.
func TestSetAgain(t *testing.T) {
	b := NewBook()
	for _, till := range []int64{50, 100, 100, 21, 1000, 30, 20, 40, 19, 22} {
		if till <= 20 {
			sets(t, b, 20, "ann", till, api.ErrExpired)
			misses(t, b, 20, "ann")
			continue
		}
		sets(t, b, 20, "ann", till, api.OK)
		meets(t, b, 20, "ann", till)
	}
	meets(t, b, 21, "ann", 22)
	misses(t, b, 22, "ann")
	misses(t, b, 39, "ann")
}

// fullBook is a book with u0 to u31, who can be met until 100 to 131.
func fullBook(t *testing.T) *Book {
	t.Helper()
	b := NewBook()
	for i, s := range crowd(32) {
		sets(t, b, 50, s, int64(100+i), api.OK)
	}
	return b
}

func TestBookFull(t *testing.T) {
	b := fullBook(t)
	for _, s := range []string{"ann", "u", "u32"} {
		sets(t, b, 50, s, 60, api.ErrFull)
		sets(t, b, 99, s, 100, api.ErrFull)
		sets(t, b, 99, s, math.MaxInt64, api.ErrFull)
		misses(t, b, 99, s)
	}
	for i, s := range crowd(32) {
		meets(t, b, 99, s, int64(100+i))
	}
}

// That there is no room is nothing to whoever has one, and is told after that the time is over.
func TestBookFullAndSetAgain(t *testing.T) {
	b := fullBook(t)
	sets(t, b, 60, "ann", 60, api.ErrExpired)
	sets(t, b, 60, "ann", 61, api.ErrFull)
	for i, s := range crowd(32) {
		sets(t, b, 60, s, int64(200+i), api.OK)
		sets(t, b, 60, "ann", 61, api.ErrFull)
	}
	for i, s := range crowd(32) {
		meets(t, b, 60, s, int64(200+i))
	}
	sets(t, b, 60, "u5", 60, api.ErrExpired)
	sets(t, b, 60, "ann", 61, api.OK)
	sets(t, b, 60, "u5", 70, api.ErrFull)
	misses(t, b, 60, "u5")
	sets(t, b, 60, "ann", 3, api.ErrExpired)
	sets(t, b, 60, "u5", 70, api.OK)
	sets(t, b, 60, "ann", 61, api.ErrFull)
	misses(t, b, 60, "ann")
	meets(t, b, 60, "u5", 70)
}

// A place is free from the moment on at which somebody can't be met any more, and is lost to them if another one takes it.
func TestPlacesOfThoseWhoAreGone(t *testing.T) {
	b := fullBook(t)
	for i, s := range crowd(32) {
		now := int64(100 + i)
		guest := "n" + strconv.Itoa(i)
		sets(t, b, now-1, guest, 500, api.ErrFull)
		misses(t, b, now, s)
		sets(t, b, now, guest, 500, api.OK)
		sets(t, b, now, s, 500, api.ErrFull)
		misses(t, b, now, s)
		sets(t, b, now, "zoe", 500, api.ErrFull)
		misses(t, b, now, "zoe")
		meets(t, b, now, guest, 500)
	}
	for i := range 32 {
		meets(t, b, 499, "n"+strconv.Itoa(i), 500)
	}
	for i, s := range crowd(32) {
		sets(t, b, 500, s, int64(600+i), api.OK) // all places are free at once
		misses(t, b, 500, "n"+strconv.Itoa(i))
	}
	sets(t, b, 500, "zoe", 700, api.ErrFull)
}

// Whoever is gone may come back if nobody took the place.
func TestBackInTime(t *testing.T) {
	b := fullBook(t)
	sets(t, b, 100, "u0", 300, api.OK)
	sets(t, b, 100, "ann", 300, api.ErrFull)
	meets(t, b, 100, "u0", 300)
	sets(t, b, 131, "ann", 300, api.OK)
	misses(t, b, 131, "u1", "u30", "u31")
	meets(t, b, 299, "u0", 300)
	meets(t, b, 299, "ann", 300)
}

// Times are any numbers: 0, less, the least and the greatest.
func TestEdgesOfTime(t *testing.T) {
	b := NewBook()
	sets(t, b, math.MinInt64, "ann", math.MinInt64, api.ErrExpired)
	sets(t, b, math.MinInt64, "ann", math.MinInt64+1, api.OK)
	sets(t, b, math.MinInt64, "bob", math.MaxInt64, api.OK)
	sets(t, b, math.MinInt64, "cat", 0, api.OK)
	meets(t, b, math.MinInt64, "ann", math.MinInt64+1)
	misses(t, b, math.MinInt64+1, "ann")
	meets(t, b, -1, "cat", 0)
	sets(t, b, -1, "dan", -1, api.ErrExpired)
	sets(t, b, -1, "dan", 0, api.OK)
	meets(t, b, -1, "dan", 0)
	misses(t, b, 0, "cat", "dan")
	sets(t, b, 0, "dan", 0, api.ErrExpired)
	sets(t, b, 0, "dan", -1, api.ErrExpired)
	sets(t, b, 0, "dan", 1, api.OK)
	meets(t, b, 0, "dan", 1)
	sets(t, b, 1<<40, "dan", 1<<40+1, api.OK)
	meets(t, b, 1<<40, "dan", 1<<40+1)
	meets(t, b, math.MaxInt64-1, "bob", math.MaxInt64)
	sets(t, b, math.MaxInt64-1, "eve", math.MaxInt64, api.OK)
	sets(t, b, math.MaxInt64-1, "dan", math.MinInt64, api.ErrExpired)
	misses(t, b, math.MaxInt64, "ann", "bob", "cat", "dan", "eve")
	sets(t, b, math.MaxInt64, "bob", math.MaxInt64, api.ErrExpired)
	sets(t, b, math.MaxInt64, "bob", math.MinInt64, api.ErrExpired)
}

func TestBooksApart(t *testing.T) {
	a, b := fullBook(t), NewBook()
	misses(t, b, 50, crowd(32)...)
	sets(t, b, 50, "u0", 70, api.OK)
	sets(t, a, 50, "u0", 50, api.ErrExpired)
	misses(t, a, 50, "u0")
	meets(t, b, 50, "u0", 70)
}

// plainBook keeps the last time that was told of each name, and counts word by word as the document says.
type plainBook map[string]int64

func (p plainBook) find(now int64, s string) (int64, bool) {
	if till, ok := p[s]; ok && till > now {
		return till, true
	}
	return 0, false
}

func (p plainBook) set(now int64, s string, till int64, named bool) api.Errno {
	if !named {
		return api.ErrName
	}
	if till <= now {
		delete(p, s)
		return api.ErrExpired
	}
	others := 0
	for other := range p {
		if _, met := p.find(now, other); met && other != s {
			others++
		}
	}
	if _, met := p.find(now, s); !met && others == 32 {
		return api.ErrFull
	}
	p[s] = till
	return api.OK
}

// Calls in random orders, at times that never go back, held against a plain book.
func TestBookByChance(t *testing.T) {
	dice := rand.New(rand.NewSource(132))
	told := map[api.Errno]int{}
	wrong := wrongNames()
	for range 100 {
		b, p := NewBook(), plainBook{}
		names := append(rightNames(), crowd(20)...)
		now := []int64{-1000, 0, 1000, 1 << 40, math.MaxInt64 - 100000}[dice.Intn(5)]
		long := 1 + dice.Int63n(2000)
		for range 500 {
			now += []int64{0, 0, 0, 0, 1, 1, 2, 5, 30}[dice.Intn(9)]
			s, named := names[dice.Intn(len(names))], true
			if dice.Intn(10) == 0 {
				s, named = wrong[dice.Intn(len(wrong))], false
			}
			till := now + 1 + dice.Int63n(long)
			if dice.Intn(10) == 0 {
				till = now - dice.Int63n(3)
			}
			want := p.set(now, s, till, named)
			told[want]++
			if e := b.Set(now, s, till); e != want {
				t.Fatalf("%q till %d at %d: %d, not %d", s, till, now, e, want)
			}
			for _, s := range names {
				want, met := p.find(now, s)
				if got, ok := b.Find(now, s); got != want || ok != met {
					t.Fatalf("%q at %d: %d, %v, not %d, %v", s, now, got, ok, want, met)
				}
			}
		}
	}
	for _, e := range []api.Errno{api.OK, api.ErrName, api.ErrExpired, api.ErrFull} {
		if told[e] < 1000 {
			t.Errorf("%d was told only %d times", e, told[e])
		}
	}
}

// A book doesn't grow with all who ever could be met.
func TestNoMoreIsKept(t *testing.T) {
	b := NewBook()
	for i := range 10000 {
		sets(t, b, int64(i), "a"+strconv.Itoa(i), int64(i+1+i%32), api.OK)
		if len(b.tills) > 32 {
			t.Fatalf("%d are kept", len(b.tills))
		}
	}
}
