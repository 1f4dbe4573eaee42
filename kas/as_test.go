package kas

import (
	"bytes"
	"cmp"
	"math"
	"slices"
	"strconv"
	"strings"
	"testing"

	"compeer/api"
	"compeer/base"
	"compeer/cache"
	"compeer/msg"
	"compeer/seal"
	"compeer/sym"
	"compeer/tick"
)

// pre is a stamp of a time, sealed with the key of a user's password.
func pre(p api.Provider, name, password string, time int64) []byte {
	b, _ := tick.Seal(p, p.Text(password, name), api.UsePre, tick.Stamp{Time: time, Seq: 3})
	return b
}

// asks is a request of a user that the Kdc has, with a stamp of now.
func asks(k *Kdc, now int64, name string, nonce, till int64) msg.AsReq {
	u, _ := k.Users.Get(name)
	b, _ := tick.Seal(k.P, u.Key, api.UsePre, tick.Stamp{Time: now, Seq: nonce & 7})
	return msg.AsReq{Client: name, Nonce: nonce, Till: till, Pre: b}
}

// refused tells where a request has an answer, or another error.
func refused(t *testing.T, k *Kdc, now int64, q msg.AsReq, want api.Errno) {
	t.Helper()
	if r, e := k.As(now, q); e != want || r.Client != "" || r.Ticket.Server != "" || len(r.Ticket.Box) != 0 || len(r.Box) != 0 {
		t.Errorf("%+v at %d: %+v, %d, not %d", q, now, r, e, want)
	}
}

// gets is what the ticket of a request says, after a look at all of the answer.
func gets(t *testing.T, k *Kdc, now int64, q msg.AsReq) tick.Inside {
	t.Helper()
	u, _ := k.Users.Get(q.Client)
	r, e := k.As(now, q)
	if e != api.OK || r.Client != q.Client || r.Ticket.Server != "kdc" {
		t.Errorf("%+v at %d: %+v, %d", q, now, r, e)
	}
	in, e := tick.Open[tick.Inside](k.P, k.Key, api.UseTicket, r.Ticket.Box)
	if e != api.OK || in.Client != q.Client || in.Auth != now {
		t.Errorf("%+v at %d: %+v, %d", q, now, in, e)
	}
	gives(t, k.P, r.Ticket, k.Key, in)
	tells(t, k.P, r.Box, u.Key, api.UseReply, told("kdc", in, q.Nonce))
	if _, ok := k.P.Open(k.Key, api.UseReply, r.Box); ok {
		t.Error("the Kdc's key opens the reply")
	}
	if _, ok := k.P.Open(u.Key, api.UseTicket, r.Ticket.Box); ok {
		t.Error("the user's key opens the ticket")
	}
	return in
}

// ends tells where a ticket has other flags or times.
func ends(t *testing.T, in tick.Inside, flags int, end, renew int64) {
	t.Helper()
	if in.Flags != flags || in.End != end || in.Renew != renew {
		t.Errorf("%+v, not %d, %d, %d", in, flags, end, renew)
	}
}

func TestExample(t *testing.T) {
	for _, fresh := range providers() {
		p := fresh()
		k := New(p)
		enrols(t, k, "ann", "pw", 60, 0, false, api.OK)
		q := msg.AsReq{Client: "ann", Nonce: 7, Till: 1000, Pre: pre(p, "ann", "pw", 110)}
		ends(t, gets(t, k, 110, q), tick.First, 170, 0)
	}
}

// crew is a Kdc with users of several lives and renewals.
func crew(t *testing.T, p api.Provider) *Kdc {
	t.Helper()
	k := New(p)
	for _, u := range []base.User{{Name: "ann", Life: 60, Renew: 600, Mesh: true}, {Name: "bob", Life: 60}, {Name: "eve", Life: 1, Renew: 1}, {Name: "ána-1", Life: 600, Renew: 6000}, {Name: "kdc", Life: 2, Mesh: true}} {
		enrols(t, k, u.Name, "of "+u.Name, u.Life, u.Renew, u.Mesh, api.OK)
	}
	return k
}

// A ticket ends at the earlier one of Till and the end of the user's Life, and who can be met or not has the same flags.
func TestTimes(t *testing.T) {
	for _, fresh := range providers() {
		k := crew(t, fresh())
		for _, c := range []struct {
			name       string
			now, till  int64
			flags      int
			end, renew int64
		}{
			{"ann", 100, 101, 5, 101, 700}, {"ann", 100, 159, 5, 159, 700}, {"ann", 100, 160, 5, 160, 700}, {"ann", 100, 161, 5, 160, 700}, {"ann", 100, api.MaxTime, 5, 160, 700}, {"ann", 100, math.MaxInt64, 5, 160, 700},
			{"bob", 100, 101, 4, 101, 0}, {"bob", 100, 159, 4, 159, 0}, {"bob", 100, 160, 4, 160, 0}, {"bob", 100, 161, 4, 160, 0}, {"bob", 0, 1, 4, 1, 0}, {"bob", 0, 60, 4, 60, 0}, {"bob", 0, 61, 4, 60, 0},
			{"eve", 0, 1, 5, 1, 1}, {"eve", 0, 2, 5, 1, 1}, {"eve", 7, 800, 5, 8, 8}, {"eve", api.MaxTime - 1, api.MaxTime, 5, api.MaxTime, api.MaxTime},
			{"ána-1", 100, 699, 5, 699, 6100}, {"ána-1", 100, 700, 5, 700, 6100}, {"ána-1", 100, 701, 5, 700, 6100}, {"ána-1", 0, 5000, 5, 600, 6000}, {"ána-1", api.MaxTime - 6000, math.MaxInt64, 5, api.MaxTime - 5400, api.MaxTime},
			{"kdc", 5, 9, 4, 7, 0}, {"bob", api.MaxTime - 60, math.MaxInt64, 4, api.MaxTime, 0}, {"bob", api.MaxTime - 1, api.MaxTime, 4, api.MaxTime, 0}, {"kdc", api.MaxTime - 2, api.MaxTime + 5, 4, api.MaxTime, 0},
		} {
			ends(t, gets(t, k, c.now, asks(k, c.now, c.name, 9, c.till)), c.flags, c.end, c.renew)
		}
	}
}

// A ticket that would be right for longer than there are times is an error of what Give makes.
func TestTimesThatAreNone(t *testing.T) {
	for _, fresh := range providers() {
		k := crew(t, fresh())
		for _, c := range []struct {
			name      string
			now, till int64
		}{
			{"bob", api.MaxTime - 59, api.MaxTime + 1}, {"bob", api.MaxTime - 59, math.MaxInt64}, {"bob", api.MaxTime, api.MaxTime + 1}, {"bob", api.MaxTime, math.MaxInt64}, {"kdc", api.MaxTime - 1, api.MaxTime + 2},
			{"ann", api.MaxTime - 599, api.MaxTime - 598}, {"ann", api.MaxTime - 30, api.MaxTime}, {"ána-1", api.MaxTime - 5999, api.MaxTime - 5990}, {"eve", api.MaxTime, api.MaxTime + 1},
		} {
			refused(t, k, c.now, asks(k, c.now, c.name, 9, c.till), api.ErrArg)
		}
	}
}

// The nonce comes again in the reply; what can't be in a box is an error.
func TestNonce(t *testing.T) {
	for _, fresh := range providers() {
		k := crew(t, fresh())
		for _, n := range []int64{0, 1, 255, 256, api.MaxTime - 1, api.MaxTime} {
			gets(t, k, 100, asks(k, 100, "ann", n, 200))
		}
		for _, n := range wrongNumbers() {
			refused(t, k, 100, asks(k, 100, "ann", n, 200), api.ErrArg)
		}
	}
}

// Nobody has a ticket who isn't enrolled under the whole name.
func TestNobody(t *testing.T) {
	for _, fresh := range providers() {
		p := fresh()
		k := crew(t, p)
		right := asks(k, 100, "ann", 9, 200)
		for _, name := range append(wrongNames(), "an", "anna", "ANN", "nn", "zoe", "ána", "of ann") {
			q := right
			q.Client = name
			refused(t, k, 100, q, api.ErrNone)
			q.Pre = pre(p, name, "of ann", 100)
			refused(t, k, 100, q, api.ErrNone)
		}
		refused(t, New(p), 100, right, api.ErrNone)
		gets(t, k, 100, right)
		k.Users.Drop("ann")
		refused(t, k, 100, right, api.ErrNone)
		gets(t, k, 100, asks(k, 100, "bob", 9, 200))
	}
}

// Who has another password than before has nothing of what was sealed with that one.
func TestNewPassword(t *testing.T) {
	for _, fresh := range providers() {
		k := crew(t, fresh())
		old := asks(k, 100, "ann", 9, 200)
		k.Users.Drop("ann")
		enrols(t, k, "ann", "another", 30, 0, true, api.OK)
		refused(t, k, 100, old, api.ErrAuth)
		ends(t, gets(t, k, 100, asks(k, 100, "ann", 9, 200)), tick.First, 130, 0)
	}
}

// wrongPres is bytes that don't show that ann knows her password, at any time.
func wrongPres(k *Kdc) [][]byte {
	p := k.P
	ann, _ := k.Users.Get("ann")
	right := pre(p, "ann", "of ann", 100)
	changed := slices.Clone(right)
	changed[len(changed)-1] ^= 64
	list := [][]byte{
		nil, {}, {1}, make([]byte, 16), make([]byte, 24), make([]byte, 5000), []byte("of ann"), ann.Key[:], right[1:], right[:len(right)-1], append(slices.Clone(right), 0), changed,
		pre(p, "ann", "of bob", 100), pre(p, "ann", "", 100), pre(p, "ann", "of ann ", 100), pre(p, "bob", "of ann", 100), pre(p, "bob", "of bob", 100), pre(p, "anna", "of ann", 100),
		p.Seal(ann.Key, api.UsePre, nil), p.Seal(ann.Key, api.UsePre, []byte("abc")), p.Seal(ann.Key, api.UsePre, make([]byte, 5000)), p.Seal(ann.Key, api.UsePre, []byte{133, 6, 0, 1, 100, 0, 1, 0, 0}), p.Seal(ann.Key, api.UsePre, []byte{133, 3, 0, 1, 100}),
	}
	for _, key := range []api.Key{{}, k.Key, p.Fresh(), p.Derive(ann.Key, "e1")} {
		b, _ := tick.Seal(p, key, api.UsePre, tick.Stamp{Time: 100})
		list = append(list, b)
	}
	for _, usage := range []int{api.UseTicket, api.UseReply, api.UseAuth, api.UseTgs, api.UseAp, api.UseApRep, api.UseDir, api.UseRecord, 0, -1, 11, 257} {
		b, _ := tick.Seal(p, ann.Key, usage, tick.Stamp{Time: 100})
		list = append(list, b)
	}
	for _, thing := range []any{tick.Ticket{Server: "kdc"}, tick.Inside{Client: "ann", Auth: 100}, tick.Reply{Server: "kdc", Auth: 100}, tick.Authent{Client: "ann", Time: 100}, tick.Fact{Nonce: 100, Name: "ann"}, tick.Plain{Body: []byte("ann")}} {
		b, _ := tick.Seal(p, ann.Key, api.UsePre, thing)
		list = append(list, b)
	}
	return list
}

// Whatever is wrong with what should show the password is the same error, also if the time and all else are wrong too.
func TestAuth(t *testing.T) {
	for _, fresh := range providers() {
		k := crew(t, fresh())
		for i, b := range wrongPres(k) {
			refused(t, k, 100, msg.AsReq{Client: "ann", Nonce: 9, Till: 200, Pre: b}, api.ErrAuth)
			refused(t, k, []int64{500, -1, math.MaxInt64}[i%3], msg.AsReq{Client: "ann", Nonce: -1, Till: 50, Pre: b}, api.ErrAuth)
		}
		gets(t, k, 100, msg.AsReq{Client: "ann", Nonce: 9, Till: 200, Pre: pre(k.P, "ann", "of ann", 100)})
	}
}

// A stamp's time must be near: at most 30 before or after.
func TestSkew(t *testing.T) {
	for _, fresh := range providers() {
		p := fresh()
		k := crew(t, p)
		edges := []int64{0, 1, 29, 30, 31, 69, 70, 71, 99, 100, 101, 129, 130, 131, 1000, api.MaxTime - 31, api.MaxTime - 30, api.MaxTime - 1, api.MaxTime}
		for _, now := range append(edges, -1, -30, api.MaxTime+1, math.MinInt64, math.MinInt64+30, math.MaxInt64) {
			for _, time := range edges {
				q := msg.AsReq{Client: "bob", Nonce: 9, Till: now + 1, Pre: pre(p, "bob", "of bob", time)}
				switch {
				case now < 0 || now > api.MaxTime || now-time > 30 || time-now > 30:
					refused(t, k, now, q, api.ErrSkew)
					q.Till = now
					refused(t, k, now, q, api.ErrSkew)
				case now == api.MaxTime:
					refused(t, k, now, q, api.ErrArg)
				default:
					ends(t, gets(t, k, now, q), tick.First, now+1, 0)
				}
			}
		}
	}
}

// The ticket's times are those of now, not those of the stamp.
func TestTimesOfNow(t *testing.T) {
	k := crew(t, sym.New())
	for _, time := range []int64{70, 99, 100, 130} {
		q := msg.AsReq{Client: "ann", Nonce: 9, Till: 5000, Pre: pre(k.P, "ann", "of ann", time)}
		ends(t, gets(t, k, 100, q), tick.First|tick.Renewable, 160, 700)
	}
}

// A ticket must be good for some time: till later than now, not just now.
func TestExpired(t *testing.T) {
	for _, fresh := range providers() {
		k := crew(t, fresh())
		for _, now := range []int64{0, 1, 100, api.MaxTime - 60} {
			for _, till := range []int64{math.MinInt64, -api.MaxTime, -1, 0, now - 31, now - 1, now} {
				if till <= now {
					refused(t, k, now, asks(k, now, "bob", 9, till), api.ErrExpired)
					refused(t, k, now, asks(k, now, "bob", -9, till), api.ErrExpired)
				}
			}
			ends(t, gets(t, k, now, asks(k, now, "bob", 9, now+1)), tick.First, now+1, 0)
		}
	}
}

// Of all that is wrong, the first is told.
func TestErrorsInOrder(t *testing.T) {
	order := []api.Errno{api.ErrNone, api.ErrAuth, api.ErrSkew, api.ErrExpired, api.ErrArg}
	for _, fresh := range providers() {
		p := fresh()
		k := crew(t, p)
		for wrong := range 1 << len(order) {
			q := msg.AsReq{Client: "ann", Nonce: 9, Till: 200}
			now, password, want := int64(100), "of ann", api.OK
			for i, e := range order {
				if wrong>>i&1 == 0 {
					continue
				}
				want = cmp.Or(want, e)
				switch e {
				case api.ErrNone:
					q.Client = "zoe"
				case api.ErrAuth:
					password = "no"
				case api.ErrSkew:
					now = 131
				case api.ErrExpired:
					q.Till = 100
				case api.ErrArg:
					q.Nonce = -1
				}
			}
			q.Pre = pre(p, q.Client, password, 100)
			if want == api.OK {
				gets(t, k, now, q)
			} else {
				refused(t, k, now, q, want)
			}
		}
	}
}

// An answer makes a key and two boxes, an error before that nothing.
func TestAsMakes(t *testing.T) {
	s := sym.New()
	k := crew(t, s)
	right := asks(k, 100, "ann", 9, 200)
	none, wrong, late, over := right, right, right, right
	none.Client = "zoe"
	wrong.Pre = pre(s, "ann", "of bob", 100)
	late.Pre = pre(s, "ann", "of ann", 69)
	over.Till = 100
	keys, boxes := s.Keys(), s.Boxes()
	refused(t, k, 100, none, api.ErrNone)
	refused(t, k, 100, wrong, api.ErrAuth)
	refused(t, k, 100, late, api.ErrSkew)
	refused(t, k, 100, over, api.ErrExpired)
	made(t, s, keys, boxes)
	for i := range 5 {
		r, e := k.As(100, right)
		if e != api.OK || !bytes.Equal(r.Ticket.Box, mark('b', boxes+2*i+1)) || !bytes.Equal(r.Box, mark('b', boxes+2*i+2)) {
			t.Errorf("%d: %+v, %d", i, r, e)
		}
		in, _ := tick.Open[tick.Inside](s, k.Key, api.UseTicket, r.Ticket.Box)
		if from, ok := s.Came(in.Key); in.Key != s.Nth(keys+i+1) || !ok || from != (sym.From{}) {
			t.Errorf("%d: %v", i, in.Key)
		}
		made(t, s, keys+i+1, boxes+2*i+2)
	}
}

// Both providers are asked for the key first, then for the ticket, then for the reply.
func TestAsBytes(t *testing.T) {
	for _, fresh := range providers() {
		p, other := fresh(), fresh()
		k, mirror := crew(t, p), crew(t, other)
		q := asks(k, 100, "ann", 9, 150)
		asks(mirror, 100, "ann", 9, 150)
		for range 3 {
			r, e := k.As(110, q)
			in := tick.Inside{Flags: 5, Key: other.Fresh(), Client: "ann", Auth: 110, End: 150, Renew: 710}
			box, _ := tick.Seal(other, mirror.Key, 2, in)
			reply, _ := tick.Seal(other, other.Text("of ann", "ann"), 3, told("kdc", in, 9))
			if e != api.OK || r.Client != "ann" || r.Ticket.Server != "kdc" || !bytes.Equal(r.Ticket.Box, box) || !bytes.Equal(r.Box, reply) {
				t.Errorf("%+v, %d", r, e)
			}
		}
		same(t, p, other)
	}
}

// No error is felt by a later call, and neither is an answer: the same request has another one.
func TestErrorsLeaveNothing(t *testing.T) {
	for _, fresh := range providers() {
		k := crew(t, fresh())
		names := k.Users.Names()
		for range 100 {
			refused(t, k, 100, msg.AsReq{Client: "ann", Nonce: 9, Till: 200}, api.ErrAuth)
			refused(t, k, 200, asks(k, 100, "ann", 9, 300), api.ErrSkew)
			refused(t, k, 100, asks(k, 100, "ann", -1, 300), api.ErrArg)
		}
		q := asks(k, 100, "ann", 9, 150)
		keys := map[api.Key]bool{}
		for range 100 {
			in := gets(t, k, 120, q)
			ends(t, in, 5, 150, 720)
			keys[in.Key] = true
		}
		if len(keys) != 100 || !slices.Equal(k.Users.Names(), names) {
			t.Errorf("%d keys, %q", len(keys), k.Users.Names())
		}
		// the time may go back
		ends(t, gets(t, k, 5, asks(k, 5, "ann", 9, 50)), 5, 50, 605)
	}
}

// The answer is the caller's own, and the request isn't changed.
func TestAsSharesNothing(t *testing.T) {
	for _, fresh := range providers() {
		p := fresh()
		k := crew(t, p)
		q := asks(k, 100, "ann", 9, 150)
		kept := slices.Clone(q.Pre)
		r, e := k.As(100, q)
		if e != api.OK || !bytes.Equal(q.Pre, kept) {
			t.Errorf("%v, %d", q.Pre, e)
		}
		box, reply := slices.Clone(r.Ticket.Box), slices.Clone(r.Box)
		clear(q.Pre)
		clear(r.Ticket.Box)
		if !bytes.Equal(r.Box, reply) {
			t.Error("the ticket and the reply share bytes")
		}
		clear(r.Box)
		in, e := tick.Open[tick.Inside](p, k.Key, api.UseTicket, box)
		if e != api.OK {
			t.Errorf("%d", e)
		}
		ann, _ := k.Users.Get("ann")
		tells(t, p, reply, ann.Key, api.UseReply, told("kdc", in, 9))
		q.Pre = kept
		gets(t, k, 100, q)
	}
}

// A request that goes through the messages' bytes is answered by a message that has bytes too.
func TestAsMessages(t *testing.T) {
	for _, fresh := range providers() {
		k := crew(t, fresh())
		for _, name := range k.Users.Names() {
			b, _ := msg.Write(asks(k, 100, name, 9, 200))
			v, _ := msg.Read(b)
			q, ok := v.(msg.AsReq)
			r, e := k.As(100, q)
			if !ok || e != api.OK || msg.To(r) != name {
				t.Errorf("%q: %+v, %d", name, r, e)
			}
			if b, e = msg.Write(r); e != api.OK {
				t.Errorf("%q: %d", name, e)
			}
		}
	}
}

// Two of one provider know their own users alone, and seal tickets with their own keys.
func TestTwoKdcs(t *testing.T) {
	for _, fresh := range providers() {
		p := fresh()
		a, b := crew(t, p), New(p)
		enrols(t, b, "ann", "of ann", 5, 0, false, api.OK)
		q := asks(a, 100, "ann", 9, 200)
		ends(t, gets(t, a, 100, q), 5, 160, 700)
		ends(t, gets(t, b, 100, q), 4, 105, 0)
		r, _ := a.As(100, q)
		if _, ok := p.Open(b.Key, api.UseTicket, r.Ticket.Box); ok {
			t.Error("the other one's key opens the ticket")
		}
		refused(t, b, 100, asks(a, 100, "bob", 9, 200), api.ErrNone)
		// the key and the users are those that the Kdc has now
		b.Key, b.Users = api.Key{7}, a.Users
		ends(t, gets(t, b, 100, q), 5, 160, 700)
	}
}

// Near is layer 12's: a stamp that it takes is taken here, at every distance.
func TestNearEveryDistance(t *testing.T) {
	k := crew(t, seal.New(nil))
	for time := int64(150); time <= 250; time++ {
		q := msg.AsReq{Client: "kdc", Nonce: time, Till: 300, Pre: pre(k.P, "kdc", "of kdc", time)}
		if cache.Near(200, time) {
			ends(t, gets(t, k, 200, q), tick.First, 202, 0)
		} else {
			refused(t, k, 200, q, api.ErrSkew)
		}
	}
}

// Each Life and Renew that a user may have comes out in the ticket.
func TestEveryLifeAndRenew(t *testing.T) {
	k := New(sym.New())
	for n := int64(0); n <= 6000; n += 1 + n/7 {
		life := 1 + n%600
		name := "u" + strconv.FormatInt(n, 10)
		enrols(t, k, name, strings.Repeat("x", int(n%50)), life, n, n%2 == 0, api.OK)
		flags, renew := 5, 1000+n
		if n == 0 {
			flags, renew = 4, 0
		}
		for _, d := range []int64{-1, 0, 1} {
			if till := 1000 + life + d; till > 1000 {
				ends(t, gets(t, k, 1000, asks(k, 1000, name, n, till)), flags, min(till, 1000+life), renew)
			}
		}
		k.Users.Drop(name)
	}
}
