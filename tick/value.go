package tick

import (
	"compeer/api"
	"compeer/der"
	"compeer/name"
)

// Value is a thing of these types as a value; false: it is none, or a number or a name in it isn't right.
func Value(v any) (der.Value, bool) {
	switch x := v.(type) {
	case Ticket:
		return list(ticketTag, x.Server, x.Box)
	case Inside:
		return list(insideTag, x.Flags, x.Key, x.Client, x.Auth, x.End, x.Renew)
	case Reply:
		return list(replyTag, x.Flags, x.Key, x.Nonce, x.Server, x.Auth, x.End, x.Renew)
	case Authent:
		return list(authentTag, x.Client, x.Time, x.Seq, x.Sub, x.Sum)
	case Stamp:
		return list(stampTag, x.Time, x.Seq)
	case Fact:
		return list(factTag, x.Nonce, x.Name, x.Found, x.Till)
	case Plain:
		return list(plainTag, x.Body)
	}
	return der.Value{}, false
}

func list(tag int, fields ...any) (der.Value, bool) {
	var parts []der.Value
	for _, f := range fields {
		p, ok := part(f)
		if !ok {
			return der.Value{}, false
		}
		parts = append(parts, p)
	}
	return der.Seq(tag, parts...), true
}

// part is a field as a value; the strings among the fields are all names.
func part(field any) (der.Value, bool) {
	switch x := field.(type) {
	case int:
		return number(int64(x))
	case int64:
		return number(x)
	case string:
		return der.Raw([]byte(x)), name.Right(x)
	case api.Key:
		return der.Raw(x[:]), true
	case []byte:
		return der.Raw(x), true
	case bool:
		return truth(x), true
	}
	return der.Value{}, false
}

func number(n int64) (der.Value, bool) {
	return der.Num(uint64(n)), 0 <= n && n <= api.MaxTime
}

func truth(yes bool) der.Value {
	if yes {
		return der.Num(1)
	}
	return der.Num(0)
}

// Of is the thing that a value stands for; false: it stands for none.
func Of(v der.Value) (any, bool) {
	if v.Kind != der.List {
		return nil, false
	}
	t := Take(v)
	thing := t.thing(v.Tag)
	if thing == nil || !t.Done() {
		return nil, false
	}
	return thing, true
}

// thing is the type of a tag, filled from the parts. Go calls the methods in the order in which they are written, so this is the order of the parts.
func (t *Taker) thing(tag int) any {
	switch tag {
	case ticketTag:
		return Ticket{Server: t.Name(), Box: t.Bytes()}
	case insideTag:
		return Inside{Flags: int(t.Num()), Key: t.Key(), Client: t.Name(), Auth: t.Num(), End: t.Num(), Renew: t.Num()}
	case replyTag:
		return Reply{Flags: int(t.Num()), Key: t.Key(), Nonce: t.Num(), Server: t.Name(), Auth: t.Num(), End: t.Num(), Renew: t.Num()}
	case authentTag:
		return Authent{Client: t.Name(), Time: t.Num(), Seq: t.Num(), Sub: t.Key(), Sum: t.Bytes()}
	case stampTag:
		return Stamp{Time: t.Num(), Seq: t.Num()}
	case factTag:
		return Fact{Nonce: t.Num(), Name: t.Name(), Found: t.Truth(), Till: t.Num()}
	case plainTag:
		return Plain{Body: t.Bytes()}
	}
	return nil
}

// Pack is the bytes of a thing.
func Pack(v any) ([]byte, api.Errno) {
	value, ok := Value(v)
	if !ok {
		return nil, api.ErrArg
	}
	return der.Write(value)
}

// Unpack is the thing that bytes stand for.
func Unpack(b []byte) (any, api.Errno) {
	value, e := der.Read(b)
	if e != api.OK {
		return nil, e
	}
	thing, ok := Of(value)
	if !ok {
		return nil, api.ErrForm
	}
	return thing, api.OK
}
