package tick

import (
	"slices"

	"compeer/api"
	"compeer/der"
	"compeer/name"
	"compeer/octet"
)

// Taker takes the parts of a list, one by one, as long as all are what they should be.
type Taker struct {
	left  []der.Value
	wrong bool
}

// Take begins to take a list's parts. It takes them from a copy: the caller may change the list. Parts that aren't valid aren't copied, for lists that hold themselves have no end.
func Take(v der.Value) *Taker {
	if slices.ContainsFunc(v.L, func(part der.Value) bool { return !der.Right(part) }) {
		return &Taker{wrong: true}
	}
	return &Taker{left: der.Seq(0, v.L...).L}
}

// next is the next part, if it has a kind and a tag; else, and from then on, nothing.
func (t *Taker) next(kind, tag int) der.Value {
	t.must(len(t.left) > 0 && t.left[0].Kind == kind && t.left[0].Tag == tag)
	if t.wrong {
		return der.Value{}
	}
	v := t.left[0]
	t.left = t.left[1:]
	return v
}

// must keeps in mind that something was not as it should be.
func (t *Taker) must(ok bool) { t.wrong = t.wrong || !ok }

// Num, Name, Key, Truth and Bytes are the next part, as such.
func (t *Taker) Num() int64 {
	n := t.next(der.Int, 0).N
	t.must(n <= api.MaxTime)
	return int64(n)
}

func (t *Taker) Name() string {
	s := string(t.next(der.Bytes, 0).B)
	t.must(name.Right(s))
	return s
}

func (t *Taker) Key() api.Key {
	k, ok := octet.Key(t.next(der.Bytes, 0).B)
	t.must(ok)
	return k
}

func (t *Taker) Truth() bool {
	n := t.next(der.Int, 0).N
	t.must(n <= 1)
	return n == 1
}

func (t *Taker) Bytes() []byte { return t.next(der.Bytes, 0).B }

// Part is the next part, a list with a tag.
func (t *Taker) Part(tag int) der.Value { return t.next(der.List, tag) }

// Done tells whether all parts were taken, and were what they should be.
func (t *Taker) Done() bool { return !t.wrong && len(t.left) == 0 }
