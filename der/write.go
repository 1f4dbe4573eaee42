package der

import (
	"compeer/api"
	"compeer/octet"
)

// Write is a value's encoding.
func Write(v Value) ([]byte, api.Errno) {
	if !Right(v) {
		return nil, api.ErrArg
	}
	b, ok := encoded(v)
	if !ok {
		return nil, api.ErrLong
	}
	return b, api.OK
}

// encoded gives up as soon as a part is too long, for then the whole is, too; so a length never has more than two bytes.
func encoded(v Value) ([]byte, bool) {
	body, ok := contents(v)
	if !ok || len(body) > api.MaxBytes {
		return nil, false
	}
	head := []byte{byte(v.Kind<<6 + v.Tag)}
	b := octet.Joined(head, length(len(body)), body)
	return b, len(b) <= api.MaxBytes
}

func contents(v Value) ([]byte, bool) {
	switch v.Kind {
	case Int:
		return octet.Short(v.N), true
	case Bytes:
		return v.B, true
	}
	var b []byte
	for _, e := range v.L {
		part, ok := encoded(e)
		if !ok || len(b)+len(part) > api.MaxBytes {
			return nil, false
		}
		b = append(b, part...)
	}
	return b, true
}

func length(n int) []byte {
	b := octet.Short(uint64(n))
	if n < 128 {
		return b
	}
	return octet.Joined([]byte{byte(128 + len(b))}, b)
}
