package der

import (
	"compeer/api"
	"compeer/octet"
)

// Read is the value that an encoding stands for. Each check below stands where it does because the first error is the one that is told.
func Read(b []byte) (Value, api.Errno) {
	if len(b) > api.MaxBytes {
		return Value{}, api.ErrLong
	}
	v, rest, e := first(b, 0)
	if e != api.OK {
		return Value{}, e
	}
	if len(rest) > 0 {
		return Value{}, api.ErrMore
	}
	return v, api.OK
}

// first is the value at the start of bytes, and what is left of them.
func first(b []byte, lists int) (Value, []byte, api.Errno) {
	if lists >= api.MaxDeep {
		return Value{}, nil, api.ErrForm
	}
	body, rest, e := split(b)
	if e != api.OK {
		return Value{}, nil, e
	}
	v, e := filled(b[0], body, lists)
	if e != api.OK {
		return Value{}, nil, e
	}
	return v, rest, api.OK
}

// split is the contents of the value at the start of bytes, and what is left of them.
func split(b []byte) ([]byte, []byte, api.Errno) {
	if len(b) < 2 {
		return nil, nil, api.ErrShort
	}
	size, rest := int(b[1]), b[2:]
	if size >= 128 {
		var e api.Errno
		size, rest, e = long(size-128, rest)
		if e != api.OK {
			return nil, nil, e
		}
	}
	if len(rest) < size {
		return nil, nil, api.ErrShort
	}
	return rest[:size], rest[size:], api.OK
}

// long is the length that has so many bytes of its own, and what is left behind it.
func long(count int, b []byte) (int, []byte, api.Errno) {
	if count < 1 || count > 2 {
		return 0, nil, api.ErrLength
	}
	if len(b) < count {
		return 0, nil, api.ErrShort
	}
	n, _ := octet.Get(b[:count])
	if n < 128 || len(octet.Short(n)) < count {
		return 0, nil, api.ErrLength
	}
	return int(n), b[count:], api.OK
}

// filled is the value of a first byte and of contents.
func filled(head byte, body []byte, lists int) (Value, api.Errno) {
	v := Value{Kind: int(head >> 6), Tag: int(head & 63)}
	if v.Kind > List || v.Tag > maxTag {
		return Value{}, api.ErrTag
	}
	e := api.OK
	switch v.Kind {
	case Int:
		v.N, e = number(body)
	case Bytes:
		v.B = octet.Joined(body)
	case List:
		v.L, e = all(body, lists+1)
	}
	if e != api.OK {
		return Value{}, e
	}
	return v, api.OK
}

func number(b []byte) (uint64, api.Errno) {
	n, ok := octet.Get(b)
	if !ok || len(octet.Short(n)) != len(b) {
		return 0, api.ErrForm
	}
	return n, api.OK
}

func all(b []byte, lists int) ([]Value, api.Errno) {
	var list []Value
	for len(b) > 0 {
		v, rest, e := first(b, lists)
		if e != api.OK {
			return nil, e
		}
		list, b = append(list, v), rest
	}
	return list, api.OK
}
