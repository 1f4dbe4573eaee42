package kas

import (
	"bytes"
	"math/rand"
	"testing"

	"compeer/api"
	"compeer/base"
	"compeer/msg"
	"compeer/sym"
	"compeer/tick"
)

// model is a Kdc by hand, beside one that is asked the same.
type model struct {
	t     *testing.T
	dice  *rand.Rand
	s     *sym.Table
	k     *Kdc
	users map[string]base.User
}

func (x *model) pick(names ...string) string { return names[x.dice.Intn(len(names))] }

func (x *model) number(list ...int64) int64 { return list[x.dice.Intn(len(list))] }

func (x *model) enrol() {
	u := base.User{Name: x.pick("ann", "bob", "eve", "Bob"), Life: x.number(0, 1, 60, 600), Renew: x.number(0, 0, 5, 6000, 6001), Mesh: x.dice.Intn(2) == 0}
	password := x.pick("a", "b")
	_, twice := x.users[u.Name]
	want := api.OK
	switch {
	case u.Name == "Bob":
		want = api.ErrName
	case u.Life == 0 || u.Renew == 6001:
		want = api.ErrArg
	case twice:
		want = api.ErrTwice
	}
	enrols(x.t, x.k, u.Name, password, u.Life, u.Renew, u.Mesh, want)
	if want == api.OK {
		u.Key = x.s.Text(password, u.Name)
		x.users[u.Name] = u
	}
}

func (x *model) drop() {
	name := x.pick("ann", "bob", "eve")
	x.k.Users.Drop(name)
	delete(x.users, name)
}

// request is one with some things wrong, or none, and the error that it has.
func (x *model) request(now int64) (msg.AsReq, api.Errno) {
	q := msg.AsReq{Client: x.pick("ann", "bob", "eve", "Bob"), Nonce: x.number(0, 1, 1<<40, -1), Till: now + x.number(-1, 0, 1, 60, 700)}
	password, time := x.pick("a", "b"), now+x.number(-31, -30, -5, 0, 0, 30, 31)
	b, e := tick.Seal(x.s, x.s.Text(password, q.Client), api.UsePre, tick.Stamp{Time: time})
	u, ok := x.users[q.Client]
	q.Pre = b
	switch {
	case !ok:
		return q, api.ErrNone
	case e != api.OK || x.s.Text(password, q.Client) != u.Key:
		return q, api.ErrAuth
	case time < now-30 || time > now+30 || now < 0 || now > api.MaxTime:
		return q, api.ErrSkew
	case q.Till < now+1:
		return q, api.ErrExpired
	case q.Nonce == -1 || q.Till > api.MaxTime && now+u.Life > api.MaxTime || now+u.Renew > api.MaxTime && u.Renew > 0:
		return q, api.ErrArg
	}
	return q, api.OK
}

func (x *model) ask() {
	now := x.number(0, 10, 100, 5000, api.MaxTime-600, api.MaxTime-5, api.MaxTime, api.MaxTime+1, -1)
	q, want := x.request(now)
	keys, boxes := x.s.Keys(), x.s.Boxes()
	r, e := x.k.As(now, q)
	if e != want {
		x.t.Fatalf("%+v at %d: %d, not %d", q, now, e, want)
	}
	if e != api.OK {
		if e != api.ErrArg {
			made(x.t, x.s, keys, boxes)
		}
		if r.Client != "" || r.Ticket.Server != "" || len(r.Ticket.Box) != 0 || len(r.Box) != 0 {
			x.t.Fatalf("%+v, %d", r, e)
		}
		return
	}
	made(x.t, x.s, keys+1, boxes+2)
	u := x.users[q.Client]
	in := tick.Inside{Flags: 4, Key: x.s.Nth(keys + 1), Client: u.Name, Auth: now, End: q.Till}
	if q.Till > now+u.Life {
		in.End = now + u.Life
	}
	if u.Renew > 0 {
		in.Flags, in.Renew = 5, now+u.Renew
	}
	x.holds(boxes+1, x.s.Nth(1), 2, in)
	x.holds(boxes+2, u.Key, 3, told("kdc", in, q.Nonce))
	if r.Client != u.Name || r.Ticket.Server != "kdc" || !bytes.Equal(r.Ticket.Box, mark('b', boxes+1)) || !bytes.Equal(r.Box, mark('b', boxes+2)) {
		x.t.Fatalf("%+v", r)
	}
}

// holds tells where a box doesn't have a thing in it.
func (x *model) holds(n int, by api.Key, usage int, thing any) {
	b, e := tick.Pack(thing)
	box, ok := x.s.Box(mark('b', n))
	if e != api.OK || !ok || box.By != by || box.Usage != usage || !bytes.Equal(box.Body, b) {
		x.t.Fatalf("box %d: %+v, not %+v", n, box, thing)
	}
}

// Every call in random orders, held against the model.
func TestModel(t *testing.T) {
	for seed := range int64(40) {
		s := sym.New()
		x := &model{t, rand.New(rand.NewSource(seed)), s, New(s), map[string]base.User{}}
		for range 400 {
			switch x.dice.Intn(8) {
			case 0:
				x.enrol()
			case 1:
				if x.dice.Intn(4) == 0 {
					x.drop()
				}
			default:
				x.ask()
			}
		}
		for _, u := range x.users {
			if got, e := x.k.Users.Get(u.Name); e != api.OK || got != u {
				t.Errorf("%+v, %d, not %+v", got, e, u)
			}
		}
	}
}
