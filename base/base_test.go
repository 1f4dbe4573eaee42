package base

import (
	"cmp"
	"math"
	"math/rand"
	"slices"
	"strconv"
	"strings"
	"testing"

	"compeer/api"
)

// someone is a user with nothing wrong, each of whose fields tells of a number.
func someone(s string, n int) User {
	return User{Name: s, Key: api.Key{byte(n), 15: byte(n >> 8)}, Life: 1 + int64(n%api.MaxLife), Renew: int64(n % (api.MaxRenew + 1)), Mesh: n%2 == 1}
}

// crowd is so many names, no two the same.
func crowd(most int) []string {
	var names []string
	for i := range most {
		names = append(names, "u"+strconv.Itoa(i))
	}
	return names
}

// wrongNames is texts that are no names, each by another fault.
func wrongNames() []string {
	return []string{"", " ", "1a", "-a", "Ann", "aNn", "ann ", " ann", "a b", "a_b", "ann\x00", "\xff", "a\xff", "\uFFFD", "\u00F7", "\u03C2", "\u0451", "\u042F", "\u00DF", "a.b", "a\u00F7", strings.Repeat("a", 17), strings.Repeat("\u044F", 17), "a" + strings.Repeat("-", 16), strings.Repeat("a", 5000)}
}

// rightNames is names, in the order of their bytes.
func rightNames() []string {
	return []string{"a", "a-", "a--", "a-1", "a-b", "a0", "a1", "a10", "a2", "aa", "ann", "ann-", "ann0", "anna", "annb", "b", "kdc", "z", strings.Repeat("z", 15), strings.Repeat("z", 16), "z\u00E0", "z\u044F", "\u00E0", "\u00E1na-1", "\u00FE", "\u03B1", "\u03C9", "\u0430", "\u044F", strings.Repeat("\u044F", 16)}
}

// holds tells where a base doesn't have just these users.
func holds(t *testing.T, b *Base, want ...User) {
	t.Helper()
	var names []string
	for _, u := range want {
		names = append(names, u.Name)
		if got, e := b.Get(u.Name); e != api.OK || got != u {
			t.Errorf("%q: %+v, %d, not %+v", u.Name, got, e, u)
		}
	}
	slices.Sort(names)
	if got := b.Names(); !slices.Equal(got, names) {
		t.Errorf("%q, not %q", got, names)
	}
}

// lacks tells where somebody is there, or can be dropped.
func lacks(t *testing.T, b *Base, s string) {
	t.Helper()
	if u, e := b.Get(s); e != api.ErrNone || u != (User{}) {
		t.Errorf("%q: %+v, %d", s, u, e)
	}
	if e := b.Drop(s); e != api.ErrNone {
		t.Errorf("%q is dropped: %d", s, e)
	}
}

func adds(t *testing.T, b *Base, u User, want api.Errno) {
	t.Helper()
	if e := b.Add(u); e != want {
		t.Errorf("%+v: %d, not %d", u, e, want)
	}
}

func TestNew(t *testing.T) {
	b := New()
	holds(t, b)
	for _, s := range append(wrongNames(), rightNames()...) {
		lacks(t, b, s)
	}
	holds(t, b)
}

// A user is found by the whole name alone, with all that was told of them.
func TestGet(t *testing.T) {
	b := New()
	ann := User{Name: "ann", Key: api.Key{1, 2, 3, 4, 5, 6, 7, 8, 9, 10, 11, 12, 13, 14, 15, 16}, Life: 60, Renew: 600, Mesh: true}
	bob := User{Name: "bob", Life: 1}
	adds(t, b, ann, api.OK)
	holds(t, b, ann)
	adds(t, b, bob, api.OK)
	holds(t, b, ann, bob)
	for _, s := range append(wrongNames(), "an", "anna", "nn", "ANN", "ann-", "bo", "annbob") {
		lacks(t, b, s)
	}
	holds(t, b, ann, bob)
	u, _ := b.Get("ann")
	u.Key[0], u.Life = 99, 5
	holds(t, b, ann, bob)
	ann.Key[0] = 77
	if u, _ := b.Get("ann"); u.Key[0] != 1 {
		t.Error("the argument is kept")
	}
}

func TestNamesThatAreNone(t *testing.T) {
	b := New()
	for _, s := range wrongNames() {
		adds(t, b, someone(s, 1), api.ErrName)
		lacks(t, b, s)
	}
	holds(t, b)
}

// Each number that Life and Renew may be is taken, and none beside.
func TestLifeAndRenew(t *testing.T) {
	far := []int64{math.MinInt64, math.MinInt64 + 1, -1 << 32, -600, -1, 601, 6001, 1<<32 + 1, 1 << 40, math.MaxInt64 - 1, math.MaxInt64}
	for life := int64(-3); life <= 605; life++ {
		takes(t, life, 5, 1 <= life && life <= 600)
	}
	for renew := int64(-3); renew <= 6005; renew++ {
		takes(t, 5, renew, 0 <= renew && renew <= 6000)
	}
	for _, n := range far {
		takes(t, n, 5, false)
		takes(t, 5, n, n == 601)
		takes(t, n, n, false)
	}
	for _, life := range []int64{0, 1, 600, 601} {
		for _, renew := range []int64{-1, 0, 6000, 6001} {
			takes(t, life, renew, life%600 < 2 && life > 0 && life < 601 && renew >= 0 && renew <= 6000)
		}
	}
}

func takes(t *testing.T, life, renew int64, right bool) {
	t.Helper()
	b := New()
	u := User{Name: "ann", Life: life, Renew: renew}
	if right {
		adds(t, b, u, api.OK)
		holds(t, b, u)
		return
	}
	adds(t, b, u, api.ErrArg)
	holds(t, b)
	lacks(t, b, "ann")
}

// Whoever is there stays as they were, also if the same is added again.
func TestTwice(t *testing.T) {
	b := New()
	ann, bob := someone("ann", 3), someone("bob", 4)
	adds(t, b, ann, api.OK)
	adds(t, b, bob, api.OK)
	for n := range 10 {
		adds(t, b, someone("ann", n), api.ErrTwice)
		adds(t, b, someone("bob", n), api.ErrTwice)
		holds(t, b, ann, bob)
	}
	adds(t, b, someone("an", 3), api.OK)
	adds(t, b, someone("anna", 3), api.OK) // the same in all but the name
	holds(t, b, ann, bob, someone("an", 3), someone("anna", 3))
}

func TestFull(t *testing.T) {
	b := New()
	var all []User
	for i, s := range crowd(32) {
		u := someone(s, 300*i)
		adds(t, b, u, api.OK)
		all = append(all, u)
		holds(t, b, all...)
	}
	for _, s := range []string{"ann", "u", "u32", "u320", "zoe"} {
		adds(t, b, someone(s, 1), api.ErrFull)
		lacks(t, b, s)
		holds(t, b, all...)
	}
	for i := range all {
		if e := b.Drop(all[i].Name); e != api.OK {
			t.Fatalf("%q: %d", all[i].Name, e)
		}
		lacks(t, b, all[i].Name)
		all[i] = someone("n"+strconv.Itoa(i), i)
		adds(t, b, all[i], api.OK)
		adds(t, b, someone("one-more", 1), api.ErrFull)
		holds(t, b, all...)
	}
}

// Of the errors that there are reasons for, the first is told, and none changes anything.
func TestOrderOfErrors(t *testing.T) {
	b := New()
	var all []User
	for i, s := range crowd(32) {
		all = append(all, someone(s, i))
		adds(t, b, all[i], api.OK)
	}
	for _, c := range []struct {
		u User
		e api.Errno
	}{
		{User{}, api.ErrName},
		{User{Name: "Ann", Life: 0, Renew: -1}, api.ErrName},
		{User{Name: "Ann", Life: 5}, api.ErrName},
		{User{Name: "U1", Life: 601}, api.ErrName},
		{User{Name: "ann", Life: 0}, api.ErrArg},
		{User{Name: "ann", Life: 1, Renew: 6001}, api.ErrArg},
		{User{Name: "u1"}, api.ErrArg},
		{User{Name: "u1", Life: 601}, api.ErrArg},
		{User{Name: "u1", Life: 1, Renew: -1}, api.ErrArg},
		{User{Name: "u1", Life: 1}, api.ErrTwice},
		{User{Name: "u31", Life: 1}, api.ErrTwice},
		{User{Name: "u0", Life: 600, Renew: 6000, Mesh: true}, api.ErrTwice},
		{User{Name: "u32", Life: 1}, api.ErrFull},
	} {
		adds(t, b, c.u, c.e)
		holds(t, b, all...)
	}
}

// Who is dropped is gone, all others stay, and the name is free again.
func TestDrop(t *testing.T) {
	for gone := range 5 {
		b := New()
		var all []User
		for i, s := range []string{"eve", "ann", "dan", "bob", "cat"} {
			all = append(all, someone(s, i+1))
			adds(t, b, all[i], api.OK)
		}
		old := all[gone]
		if e := b.Drop(old.Name); e != api.OK {
			t.Errorf("%q: %d", old.Name, e)
		}
		all = slices.Delete(all, gone, gone+1)
		holds(t, b, all...)
		lacks(t, b, old.Name)
		holds(t, b, all...)
		again := someone(old.Name, 200)
		adds(t, b, again, api.OK)
		holds(t, b, append(all, again)...)
		adds(t, b, old, api.ErrTwice)
	}
	b := New()
	for n := range 100 {
		adds(t, b, someone("ann", n), api.OK)
		holds(t, b, someone("ann", n))
		if e := b.Drop("ann"); e != api.OK {
			t.Errorf("%d", e)
		}
		holds(t, b)
	}
}

// Names are in the order of their bytes, whatever order they came in, and each answer is one's own.
func TestNames(t *testing.T) {
	dice := rand.New(rand.NewSource(130))
	want := rightNames()
	for range 100 {
		b := New()
		for _, i := range dice.Perm(len(want)) {
			adds(t, b, someone(want[i], i), api.OK)
		}
		for range 2 {
			got := b.Names()
			if !slices.Equal(got, want) {
				t.Fatalf("%q", got)
			}
			clear(got)
			_ = append(got[:0], "x")
		}
		for i, s := range want {
			if u, e := b.Get(s); e != api.OK || u != someone(s, i) {
				t.Errorf("%q: %+v, %d", s, u, e)
			}
		}
	}
}

func TestBasesApart(t *testing.T) {
	a, b := New(), New()
	adds(t, a, someone("ann", 1), api.OK)
	holds(t, b)
	adds(t, b, someone("ann", 2), api.OK)
	holds(t, a, someone("ann", 1))
	if e := a.Drop("ann"); e != api.OK {
		t.Errorf("%d", e)
	}
	holds(t, a)
	holds(t, b, someone("ann", 2))
}

// plainBase does word by word what the document says.
type plainBase map[string]User

func (p plainBase) add(u User, named bool) api.Errno {
	if !named {
		return api.ErrName
	}
	if u.Life < 1 || u.Life > 600 || u.Renew < 0 || u.Renew > 6000 {
		return api.ErrArg
	}
	if _, ok := p[u.Name]; ok {
		return api.ErrTwice
	}
	if len(p) == 32 {
		return api.ErrFull
	}
	p[u.Name] = u
	return api.OK
}

func (p plainBase) users() []User {
	var list []User
	for _, u := range p {
		list = append(list, u)
	}
	slices.SortFunc(list, func(a, b User) int { return cmp.Compare(a.Name, b.Name) })
	return list
}

// Calls in random orders, held against a plain base.
func TestBaseByChance(t *testing.T) {
	dice := rand.New(rand.NewSource(131))
	told := map[api.Errno]int{}
	wrong := wrongNames()
	for range 60 {
		b, p := New(), plainBase{}
		names := append(rightNames(), crowd(10)...)
		drops := 2 + dice.Intn(8)
		for range 400 {
			s := names[dice.Intn(len(names))]
			if dice.Intn(drops) == 0 {
				want := api.ErrNone
				if _, ok := p[s]; ok {
					want = api.OK
					delete(p, s)
				}
				if e := b.Drop(s); e != want {
					t.Fatalf("%q is dropped: %d, not %d", s, e, want)
				}
			} else {
				u, named := someone(s, dice.Intn(60000)), true
				if dice.Intn(8) == 0 {
					u.Name, named = wrong[dice.Intn(len(wrong))], false
				}
				if dice.Intn(8) == 0 {
					u.Life = 600 - dice.Int63n(1200)
				}
				if dice.Intn(8) == 0 {
					u.Renew = 6000 - dice.Int63n(12000)
				}
				want := p.add(u, named)
				told[want]++
				if e := b.Add(u); e != want {
					t.Fatalf("%+v: %d, not %d", u, e, want)
				}
			}
			holds(t, b, p.users()...)
			s = names[dice.Intn(len(names))]
			if _, ok := p[s]; !ok {
				lacks(t, b, s)
			}
		}
	}
	for _, e := range []api.Errno{api.OK, api.ErrName, api.ErrArg, api.ErrTwice, api.ErrFull} {
		if told[e] < 200 {
			t.Errorf("%d was told only %d times", e, told[e])
		}
	}
}
