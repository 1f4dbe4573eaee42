package msg

import (
	"compeer/api"
	"compeer/der"
	"compeer/name"
	"compeer/tick"
)

// Write is a message's bytes.
func Write(v any) ([]byte, api.Errno) {
	value, ok := Value(v)
	if !ok {
		return nil, api.ErrArg
	}
	return der.Write(value)
}

// Value is a message as a value; false: it is none, or a name, a number or a ticket in it isn't right, or it has too many tickets.
func Value(v any) (der.Value, bool) {
	switch x := v.(type) {
	case AsReq:
		return list(asReqTag, x.Client, x.Nonce, x.Till, x.Pre)
	case AsRep:
		return list(asRepTag, x.Client, x.Ticket, x.Box)
	case TgsReq:
		return list(tgsReqTag, x.Server, x.Nonce, x.Till, x.Renew, x.Mesh, x.Ticket, x.Auth, x.Extra)
	case TgsRep:
		return list(tgsRepTag, x.Client, x.Ticket, x.Box)
	case Call:
		return list(callTag, x.From, x.To, x.Sid)
	case Card:
		return list(cardTag, x.From, x.To, x.Sid, x.Ticket)
	case ApReq:
		return list(apReqTag, x.From, x.To, x.Sid, x.Ticket, x.Auth)
	case ApRep:
		return list(apRepTag, x.From, x.To, x.Sid, x.Box)
	case Frame:
		return list(frameTag, x.From, x.To, x.Sid, x.Epoch, x.Seq, x.Box)
	case DirReq:
		return list(dirReqTag, x.Name, x.Nonce, x.Till, x.Set, x.Ticket, x.Auth)
	case DirRep:
		return list(dirRepTag, x.Client, x.Box)
	case Fail:
		return list(failTag, x.To, x.Code, x.Nonce)
	}
	return der.Value{}, false
}

func list(tag int, fields ...any) (der.Value, bool) {
	var parts []der.Value
	for _, f := range fields {
		p, ok := part(f)
		if !ok {
			return der.Value{}, false
		}
		parts = append(parts, p)
	}
	return der.Seq(tag, parts...), true
}

// part is a field as a value; the strings among the fields are all names.
func part(field any) (der.Value, bool) {
	switch x := field.(type) {
	case int64:
		return der.Num(uint64(x)), 0 <= x && x <= api.MaxTime
	case string:
		return der.Raw([]byte(x)), name.Right(x)
	case bool:
		return truth(x), true
	case []byte:
		return der.Raw(x), true
	case tick.Ticket:
		return tick.Value(x)
	case []tick.Ticket:
		return extra(x)
	}
	return der.Value{}, false
}

func truth(yes bool) der.Value {
	if yes {
		return der.Num(1)
	}
	return der.Num(0)
}

func extra(tickets []tick.Ticket) (der.Value, bool) {
	if len(tickets) > maxExtra {
		return der.Value{}, false
	}
	var fields []any
	for _, t := range tickets {
		fields = append(fields, t)
	}
	return list(extraTag, fields...)
}
