package msg

import (
	"compeer/api"
	"compeer/der"
	"compeer/tick"
)

// reader reads the parts of a message: layer 10's Taker reads those that it knows, and here are tickets.
type reader struct {
	*tick.Taker
	wrong bool
}

// Read is the message that bytes are.
func Read(b []byte) (any, api.Errno) {
	value, e := der.Read(b)
	if e != api.OK {
		return nil, e
	}
	message, ok := Of(value)
	if !ok {
		return nil, api.ErrForm
	}
	return message, api.OK
}

// Of is the message that a value is; false: it is none.
func Of(v der.Value) (any, bool) {
	if v.Kind != der.List {
		return nil, false
	}
	r := &reader{Taker: tick.Take(v)}
	message := r.message(v.Tag)
	if message == nil || r.wrong || !r.Done() {
		return nil, false
	}
	return message, true
}

// message is the type of a tag, filled from the parts. Go calls the methods in the order in which they are written, so this is the order of the parts.
func (r *reader) message(tag int) any {
	switch tag {
	case asReqTag:
		return AsReq{Client: r.Name(), Nonce: r.Num(), Till: r.Num(), Pre: r.Bytes()}
	case asRepTag:
		return AsRep{Client: r.Name(), Ticket: r.ticket(), Box: r.Bytes()}
	case tgsReqTag:
		return TgsReq{Server: r.Name(), Nonce: r.Num(), Till: r.Num(), Renew: r.Truth(), Mesh: r.Truth(), Ticket: r.ticket(), Auth: r.Bytes(), Extra: r.extra()}
	case tgsRepTag:
		return TgsRep{Client: r.Name(), Ticket: r.ticket(), Box: r.Bytes()}
	case callTag:
		return Call{From: r.Name(), To: r.Name(), Sid: r.Num()}
	case cardTag:
		return Card{From: r.Name(), To: r.Name(), Sid: r.Num(), Ticket: r.ticket()}
	case apReqTag:
		return ApReq{From: r.Name(), To: r.Name(), Sid: r.Num(), Ticket: r.ticket(), Auth: r.Bytes()}
	case apRepTag:
		return ApRep{From: r.Name(), To: r.Name(), Sid: r.Num(), Box: r.Bytes()}
	case frameTag:
		return Frame{From: r.Name(), To: r.Name(), Sid: r.Num(), Epoch: r.Num(), Seq: r.Num(), Box: r.Bytes()}
	case dirReqTag:
		return DirReq{Name: r.Name(), Nonce: r.Num(), Till: r.Num(), Set: r.Truth(), Ticket: r.ticket(), Auth: r.Bytes()}
	case dirRepTag:
		return DirRep{Client: r.Name(), Box: r.Bytes()}
	case failTag:
		return Fail{To: r.Name(), Code: r.Num(), Nonce: r.Num()}
	}
	return nil
}

// ticketTag is layer 10's tag of a ticket.
const ticketTag = 1

// ticket is the next part, a ticket.
func (r *reader) ticket() tick.Ticket { return r.asTicket(r.Part(ticketTag)) }

// extra is the next part, a list of tickets.
func (r *reader) extra() []tick.Ticket {
	list := r.Part(extraTag).L
	if len(list) > maxExtra {
		r.wrong = true
		return nil
	}
	var tickets []tick.Ticket
	for _, v := range list {
		tickets = append(tickets, r.asTicket(v))
	}
	return tickets
}

// asTicket keeps in mind that a value was no ticket.
func (r *reader) asTicket(v der.Value) tick.Ticket {
	thing, _ := tick.Of(v)
	t, ok := thing.(tick.Ticket)
	r.wrong = r.wrong || !ok
	return t
}
