package kas

import (
	"bytes"
	"math"
	"slices"
	"strconv"
	"strings"
	"testing"

	"compeer/api"
	"compeer/base"
	"compeer/mac"
	"compeer/seal"
	"compeer/sym"
	"compeer/tick"
)

// providers makes providers, each the same every time.
func providers() []func() api.Provider {
	return []func() api.Provider{
		func() api.Provider { return sym.New() },
		func() api.Provider { return seal.New([]byte("seed")) },
	}
}

// wrongNames is texts that are no names, each by another fault.
func wrongNames() []string {
	return []string{"", " ", "1a", "-a", "Ann", "ann ", "a_b", "ann\x00", "\xff", "a\xff", "\uFFFD", "\u00F7", strings.Repeat("a", 17), strings.Repeat("\u044F", 17), strings.Repeat("a", 5000)}
}

// wrongNumbers is what no number of a box may be.
func wrongNumbers() []int64 {
	return []int64{math.MinInt64, -api.MaxTime, -1, api.MaxTime + 1, 1 << 62, math.MaxInt64}
}

func enrols(t *testing.T, k *Kdc, name, password string, life, renew int64, mesh bool, want api.Errno) {
	t.Helper()
	if e := k.Enrol(name, password, life, renew, mesh); e != want {
		t.Errorf("%q, %q, %d, %d: %d, not %d", name, password, life, renew, e, want)
	}
}

// has tells where a Kdc doesn't have just these users.
func has(t *testing.T, k *Kdc, want ...base.User) {
	t.Helper()
	var names []string
	for _, u := range want {
		names = append(names, u.Name)
		if got, e := k.Users.Get(u.Name); e != api.OK || got != u {
			t.Errorf("%q: %+v, %d, not %+v", u.Name, got, e, u)
		}
	}
	slices.Sort(names)
	if got := k.Users.Names(); !slices.Equal(got, names) {
		t.Errorf("%q, not %q", got, names)
	}
}

// made tells where a table doesn't have just so many keys and boxes.
func made(t *testing.T, s *sym.Table, keys, boxes int) {
	t.Helper()
	if s.Keys() != keys || s.Boxes() != boxes {
		t.Errorf("%d keys and %d boxes, not %d and %d", s.Keys(), s.Boxes(), keys, boxes)
	}
}

// same tells where two providers, of one beginning, have not made as much as each other.
func same(t *testing.T, p, q api.Provider) {
	t.Helper()
	if p.Fresh() != q.Fresh() || !bytes.Equal(p.Seal(api.Key{}, 1, nil), q.Seal(api.Key{}, 1, nil)) {
		t.Error("not as many keys or boxes were made")
	}
}

func TestNew(t *testing.T) {
	for _, fresh := range providers() {
		p, q := fresh(), fresh()
		k := New(p)
		if k.P != p || k.Key != q.Fresh() || k.Key == (api.Key{}) {
			t.Errorf("%v", k)
		}
		has(t, k)
		same(t, p, q)
	}
	s := sym.New()
	if k := New(s); k.Key != s.Nth(1) {
		t.Errorf("%v", k.Key)
	}
	made(t, s, 1, 0)
}

// Two of one provider have neither a key nor users in common.
func TestNewTwice(t *testing.T) {
	for _, fresh := range providers() {
		p := fresh()
		a, b := New(p), New(p)
		if a.Key == b.Key {
			t.Errorf("%v", a.Key)
		}
		enrols(t, a, "ann", "pw", 60, 0, true, api.OK)
		has(t, b)
		enrols(t, b, "ann", "other", 5, 7, false, api.OK)
		has(t, a, base.User{Name: "ann", Key: p.Text("pw", "ann"), Life: 60, Mesh: true})
		has(t, b, base.User{Name: "ann", Key: p.Text("other", "ann"), Life: 5, Renew: 7})
	}
}

// A user has the key of the password, with the name as the salt.
func TestEnrol(t *testing.T) {
	for _, fresh := range providers() {
		p := fresh()
		k := New(p)
		var want []base.User
		for i, password := range []string{"", "pw", "pw", "ann", "Pw", "pw ", "\x00", "\xff\xfe", "ána", strings.Repeat("long", 5000)} {
			u := base.User{Name: "u" + strconv.Itoa(i), Life: int64(1 + 599*(i%2)), Renew: []int64{0, 1, 6000}[i%3], Mesh: i%4 > 1}
			enrols(t, k, u.Name, password, u.Life, u.Renew, u.Mesh, api.OK)
			u.Key = p.Text(password, u.Name)
			want = append(want, u)
			has(t, k, want...)
		}
		for i, u := range want {
			for _, other := range want[:i] {
				if u.Key == other.Key {
					t.Errorf("%q and %q have one key", u.Name, other.Name)
				}
			}
		}
	}
	k := New(seal.New(nil))
	enrols(t, k, "ána-1", "password", 1, 0, false, api.OK)
	has(t, k, base.User{Name: "ána-1", Key: mac.Text("password", "ána-1"), Life: 1})
}

// Each user has one key more, and none has a box.
func TestEnrolMakesKeys(t *testing.T) {
	s := sym.New()
	k := New(s)
	for i, name := range []string{"ann", "bob", "kdc", "я"} {
		enrols(t, k, name, "pw", 60, 0, true, api.OK)
		if u, _ := k.Users.Get(name); u.Key != s.Nth(2+i) {
			t.Errorf("%q: %v", name, u.Key)
		}
		made(t, s, 2+i, 0)
		if from, ok := s.Came(s.Nth(2 + i)); !ok || !from.Text {
			t.Errorf("%q: %+v", name, from)
		}
	}
	// who is enrolled again with the same password has the same key
	bob, _ := k.Users.Get("bob")
	k.Users.Drop("bob")
	enrols(t, k, "bob", "pw", 60, 0, true, api.OK)
	if u, _ := k.Users.Get("bob"); u != bob {
		t.Errorf("%+v, not %+v", u, bob)
	}
	made(t, s, 5, 0)
}

// Of several errors that of Add comes first, and nobody is added.
func TestEnrolErrors(t *testing.T) {
	for _, fresh := range providers() {
		p := fresh()
		k := New(p)
		enrols(t, k, "ann", "pw", 60, 5, true, api.OK)
		ann := base.User{Name: "ann", Key: p.Text("pw", "ann"), Life: 60, Renew: 5, Mesh: true}
		for _, name := range wrongNames() {
			enrols(t, k, name, "pw", 60, 0, true, api.ErrName)
			enrols(t, k, name, "pw", 0, -1, false, api.ErrName)
		}
		for _, n := range []int64{math.MinInt64, -1, 0, 601, 6000, math.MaxInt64} {
			enrols(t, k, "ann", "other", n, 0, false, api.ErrArg)
			enrols(t, k, "bob", "pw", n, 0, true, api.ErrArg)
		}
		for _, n := range []int64{math.MinInt64, -1, 6001, math.MaxInt64} {
			enrols(t, k, "ann", "other", 60, n, false, api.ErrArg)
			enrols(t, k, "bob", "pw", 60, n, true, api.ErrArg)
		}
		enrols(t, k, "ann", "pw", 60, 5, true, api.ErrTwice)
		enrols(t, k, "ann", "other", 1, 0, false, api.ErrTwice)
		has(t, k, ann)
	}
}

func TestEnrolFull(t *testing.T) {
	k := New(sym.New())
	for i := range 32 {
		enrols(t, k, "u"+strconv.Itoa(i), "pw", 60, 0, true, api.OK)
	}
	names := k.Users.Names()
	enrols(t, k, "ann", "pw", 60, 0, true, api.ErrFull)
	enrols(t, k, "u5", "pw", 60, 0, true, api.ErrTwice)
	enrols(t, k, "ann", "pw", 0, 0, true, api.ErrArg)
	enrols(t, k, "Ann", "pw", 60, 0, true, api.ErrName)
	if got := k.Users.Names(); !slices.Equal(got, names) {
		t.Errorf("%q", got)
	}
	k.Users.Drop("u5")
	enrols(t, k, "ann", "pw", 60, 0, true, api.OK)
	enrols(t, k, "u5", "pw", 60, 0, true, api.ErrFull)
}

// told is what a reply says of a ticket, field by field.
func told(server string, in tick.Inside, nonce int64) tick.Reply {
	var r tick.Reply
	r.Server, r.Nonce = server, nonce
	r.Flags, r.Key = in.Flags, in.Key
	r.Auth, r.End, r.Renew = in.Auth, in.End, in.Renew
	return r
}

// insides is what tickets may say, each field with a number of its own.
func insides() []tick.Inside {
	return []tick.Inside{
		{Client: "a"},
		{Flags: 1, Key: api.Key{2, 15: 3}, Client: "ann", Auth: 4, End: 5, Renew: 6},
		{Flags: 7, Key: api.Key([]byte("sixteen letters!")), Client: "ána-1", Auth: 600, End: 500, Renew: 400},
		{Flags: api.MaxTime, Client: "kdc", Auth: api.MaxTime, End: 0, Renew: 1},
		{Flags: 2, Client: strings.Repeat("\u044F", 16), Auth: 0, End: api.MaxTime, Renew: api.MaxTime},
	}
}

// The ticket is sealed first, then the reply, each with a key of its own, and nothing else is made.
func TestGive(t *testing.T) {
	by, to := api.Key{1}, api.Key{15: 1}
	for _, fresh := range providers() {
		for _, in := range insides() {
			for _, server := range []string{"kdc", "bob", "я", in.Client} {
				for i, nonce := range []int64{0, 9, api.MaxTime} {
					p, q := fresh(), fresh()
					k := New(p)
					q.Fresh()
					usage := []int{api.UseReply, api.UseTgs, -5}[i]
					ticket, reply, e := k.Give(server, by, in, nonce, to, usage)
					box, _ := tick.Seal(q, by, api.UseTicket, in)
					want, _ := tick.Seal(q, to, usage, told(server, in, nonce))
					if e != api.OK || ticket.Server != server || !bytes.Equal(ticket.Box, box) || !bytes.Equal(reply, want) {
						t.Errorf("%q, %+v, %d: %+v, %v, %d", server, in, nonce, ticket, reply, e)
					}
					gives(t, p, ticket, by, in)
					tells(t, p, reply, to, usage, told(server, in, nonce))
					has(t, k)
					same(t, p, q)
				}
			}
		}
	}
}

// gives tells where a ticket doesn't say this to who has its key, or says something to who hasn't.
func gives(t *testing.T, p api.Provider, ticket tick.Ticket, by api.Key, want tick.Inside) {
	t.Helper()
	if in, e := tick.Open[tick.Inside](p, by, api.UseTicket, ticket.Box); e != api.OK || in != want {
		t.Errorf("the ticket: %+v, %d, not %+v", in, e, want)
	}
	by[3]++
	if _, ok := p.Open(by, api.UseTicket, ticket.Box); ok {
		t.Error("the ticket is opened with another key")
	}
	by[3]--
	if _, ok := p.Open(by, api.UseReply, ticket.Box); ok {
		t.Error("the ticket is opened for another usage")
	}
}

// tells is the same of a reply.
func tells(t *testing.T, p api.Provider, reply []byte, to api.Key, usage int, want tick.Reply) {
	t.Helper()
	if r, e := tick.Open[tick.Reply](p, to, usage, reply); e != api.OK || r != want {
		t.Errorf("the reply: %+v, %d, not %+v", r, e, want)
	}
	to[3]++
	if _, ok := p.Open(to, usage, reply); ok {
		t.Error("the reply is opened with another key")
	}
	to[3]--
	if _, ok := p.Open(to, usage+1, reply); ok {
		t.Error("the reply is opened for another usage")
	}
}

// One key may seal both boxes.
func TestGiveByOneKey(t *testing.T) {
	s := sym.New()
	k := New(s)
	in := tick.Inside{Flags: 1, Key: s.Fresh(), Client: "ann", Auth: 1, End: 2, Renew: 3}
	ticket, reply, e := k.Give("bob", k.Key, in, 5, k.Key, api.UseTicket)
	if e != api.OK || !bytes.Equal(ticket.Box, mark('b', 1)) || !bytes.Equal(reply, mark('b', 2)) {
		t.Errorf("%+v, %v, %d", ticket, reply, e)
	}
	for i, want := range []any{in, told("bob", in, 5)} {
		b, _ := tick.Pack(want)
		if box, ok := s.Box(mark('b', 1+i)); !ok || box.By != k.Key || box.Usage != api.UseTicket || !bytes.Equal(box.Body, b) {
			t.Errorf("box %d: %+v", 1+i, box)
		}
	}
	made(t, s, 2, 2)
}

// mark is a mark by hand.
func mark(kind byte, n int) []byte {
	return []byte{255, 254, kind, 0, 0, 0, 0, 0, 0, 0, 0, 0, 0, 0, byte(n >> 8), byte(n)}
}

// givesNothing tells where there is a ticket or a reply beside the error.
func givesNothing(t *testing.T, k *Kdc, server string, in tick.Inside, nonce int64) {
	t.Helper()
	ticket, reply, e := k.Give(server, api.Key{1}, in, nonce, api.Key{2}, api.UseReply)
	if e != api.ErrArg || ticket.Server != "" || len(ticket.Box) != 0 || len(reply) != 0 {
		t.Errorf("%q, %+v, %d: %+v, %v, %d", server, in, nonce, ticket, reply, e)
	}
}

func TestGiveErrors(t *testing.T) {
	for _, fresh := range providers() {
		k := New(fresh())
		right := insides()[1]
		for _, n := range wrongNumbers() {
			for i := range 4 {
				in := right
				*[]*int64{&in.Auth, &in.End, &in.Renew, new(int64)}[i] = n
				if i == 3 {
					in.Flags = int(n)
				}
				givesNothing(t, k, "kdc", in, 5)
				givesNothing(t, k, "KDC", in, -5)
			}
			givesNothing(t, k, "kdc", right, n)
		}
		for _, name := range wrongNames() {
			in := right
			in.Client = name
			givesNothing(t, k, "kdc", in, 5)
			givesNothing(t, k, name, in, 5)
			givesNothing(t, k, name, right, 5)
		}
		has(t, k)
	}
}

// No box is made before the ticket is known to be right, and no key at all.
func TestGiveErrorsMakeNothing(t *testing.T) {
	s := sym.New()
	k := New(s)
	givesNothing(t, k, "kdc", tick.Inside{Client: "A"}, 5)
	givesNothing(t, k, "kdc", tick.Inside{Client: "a", End: -1}, 5)
	made(t, s, 1, 0)
	givesNothing(t, k, "kdc", tick.Inside{Client: "a"}, -1)
	givesNothing(t, k, "", tick.Inside{Client: "a"}, 1)
	if s.Keys() != 1 {
		t.Errorf("%d keys", s.Keys())
	}
}

// What was given is the caller's own.
func TestGiveSharesNothing(t *testing.T) {
	for _, fresh := range providers() {
		p := fresh()
		k := New(p)
		in := insides()[1]
		ticket, reply, _ := k.Give("kdc", k.Key, in, 5, api.Key{2}, api.UseReply)
		kept, keptReply := slices.Clone(ticket.Box), slices.Clone(reply)
		clear(ticket.Box)
		if !bytes.Equal(reply, keptReply) {
			t.Error("the ticket and the reply share bytes")
		}
		clear(reply)
		gives(t, p, tick.Ticket{Box: kept}, k.Key, in)
		tells(t, p, keptReply, api.Key{2}, api.UseReply, told("kdc", in, 5))
	}
}
