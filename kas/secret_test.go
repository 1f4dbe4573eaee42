package kas

import (
	"bytes"
	"testing"

	"compeer/api"
	"compeer/knows"
	"compeer/msg"
	"compeer/seal"
	"compeer/sym"
	"compeer/tick"
)

// seen is what somebody knows who sees each request and each answer, and what the tickets' keys are, user by user.
func seen(t *testing.T, s *sym.Table, k *Kdc) (*knows.Mind, map[string][]api.Key) {
	t.Helper()
	m := knows.New(s)
	keys := map[string][]api.Key{}
	see := func(v any) {
		b, e := msg.Write(v)
		if e != api.OK {
			t.Fatalf("%+v: %d", v, e)
		}
		m.See(b)
	}
	for now := int64(100); now < 103; now++ {
		for _, name := range k.Users.Names() {
			q := asks(k, now, name, now, now+50)
			r, _ := k.As(now, q)
			in, e := tick.Open[tick.Inside](s, k.Key, api.UseTicket, r.Ticket.Box)
			if e != api.OK {
				t.Fatalf("%q: %d", name, e)
			}
			see(q)
			see(r)
			keys[name] = append(keys[name], in.Key)
		}
	}
	return m, keys
}

// knowsOf tells where somebody doesn't know just the ticket keys of some users.
func knowsOf(t *testing.T, m *knows.Mind, keys map[string][]api.Key, known ...string) {
	t.Helper()
	for name, list := range keys {
		want := false
		for _, s := range known {
			want = want || s == name
		}
		for _, key := range list {
			if m.Key(key) != want {
				t.Errorf("%q's keys are known: %v", name, !want)
			}
		}
	}
}

// Who sees all knows no key of a ticket, and who has a password besides knows that user's, but no ticket.
func TestSecret(t *testing.T) {
	s := sym.New()
	k := crew(t, s)
	m, keys := seen(t, s, k)
	if len(m.Keys()) != 0 {
		t.Errorf("%v are known", m.Keys())
	}
	for i, name := range k.Users.Names() {
		for _, wrong := range []string{"", "of", "of " + name + " ", "of kdc-"} {
			m.Learn(s.Text(wrong, name))
			m.Learn(s.Text("of "+name, wrong))
		}
		knowsOf(t, m, keys, k.Users.Names()[:i]...)
		m.Learn(s.Text("of "+name, name))
		knowsOf(t, m, keys, k.Users.Names()[:i+1]...)
	}
	r, _ := k.As(200, asks(k, 200, "ann", 9, 300))
	m.See(r.Ticket.Box)
	if m.Key(k.Key) || m.Opens(r.Ticket.Box) {
		t.Error("a ticket can be read")
	}
}

// Each ticket has a key that no other has, nor anybody else.
func TestOwnKeys(t *testing.T) {
	for _, fresh := range providers() {
		p := fresh()
		k := crew(t, p)
		found := map[api.Key]int{{}: 1, k.Key: 1}
		for _, name := range k.Users.Names() {
			u, _ := k.Users.Get(name)
			found[u.Key]++
		}
		for i := range 200 {
			name := k.Users.Names()[i%5]
			found[gets(t, k, 100, asks(k, 100, name, 9, 101)).Key]++
		}
		found[p.Fresh()]++
		if len(found) != 208 {
			t.Errorf("%d keys", len(found))
		}
	}
}

// An answer of real ciphers has neither the ticket's key nor that of a user in it, and no other user's key opens it.
func TestSealedForReal(t *testing.T) {
	k := crew(t, seal.New(nil))
	for _, name := range k.Users.Names() {
		r, _ := k.As(100, asks(k, 100, name, 9, 200))
		in, _ := tick.Open[tick.Inside](k.P, k.Key, api.UseTicket, r.Ticket.Box)
		for _, other := range k.Users.Names() {
			u, _ := k.Users.Get(other)
			for _, key := range []api.Key{u.Key, k.Key, in.Key} {
				if bytes.Contains(r.Ticket.Box, key[:]) || bytes.Contains(r.Box, key[:]) {
					t.Errorf("%q: a key can be seen", name)
				}
			}
			if _, ok := k.P.Open(u.Key, api.UseReply, r.Box); ok != (name == other) {
				t.Errorf("%q opens what is for %q: %v", other, name, ok)
			}
		}
	}
}
