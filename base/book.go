package base

import (
	"compeer/api"
	"compeer/name"
)

// Book tells who can be met, and until when. Who can't be met any more may stand there till the next Set.
type Book struct {
	tills map[string]int64
}

// NewBook is an empty one.
func NewBook() *Book { return &Book{tills: map[string]int64{}} }

// Set tells that somebody can be met until then; ErrExpired: that is over.
func (b *Book) Set(now int64, s string, till int64) api.Errno {
	if !name.Right(s) {
		return api.ErrName
	}
	b.forget(now)
	if till <= now {
		delete(b.tills, s)
		return api.ErrExpired
	}
	if _, met := b.tills[s]; !met && len(b.tills) >= api.MaxUsers {
		return api.ErrFull
	}
	b.tills[s] = till
	return api.OK
}

// forget leaves those alone who can be met, so that no others take their places. Nobody can tell, for the time doesn't go back.
func (b *Book) forget(now int64) {
	for s, till := range b.tills {
		if till <= now {
			delete(b.tills, s)
		}
	}
}

// Find is until when somebody can be met; false: they can't.
func (b *Book) Find(now int64, s string) (int64, bool) {
	till, ok := b.tills[s]
	if !ok || till <= now {
		return 0, false
	}
	return till, true
}
