package tick

import "compeer/api"

// Seal is a box of a thing.
func Seal(p api.Provider, k api.Key, usage int, v any) ([]byte, api.Errno) {
	b, e := Pack(v)
	if e != api.OK {
		return nil, e
	}
	return p.Seal(k, usage, b), api.OK
}

// Open is what is in a box, if it is of a type.
func Open[T any](p api.Provider, k api.Key, usage int, box []byte) (T, api.Errno) {
	var none T
	b, ok := p.Open(k, usage, box)
	if !ok {
		return none, api.ErrSeal
	}
	v, e := Unpack(b)
	if e != api.OK {
		return none, e
	}
	if thing, ok := v.(T); ok {
		return thing, api.OK
	}
	return none, api.ErrForm
}
