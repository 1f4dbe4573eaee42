// Package der is layer 2: values, and the one encoding that each of them has. See shared/doc/02-der.md.
package der

import (
	"compeer/api"
	"compeer/octet"
)

// The kinds of values.
const (
	Int = iota
	Bytes
	List
)

const (
	maxTag = 30

	// deepest is more lists in lists than the document speaks of. Going no deeper, Seq and Same come to an end also for a list that holds itself.
	deepest = 1 << 17
)

// Value is a number, bytes, or a list of values, with a tag from 0 to 30.
type Value struct {
	Kind int
	Tag  int
	N    uint64
	B    []byte
	L    []Value
}

// Num is a number.
func Num(n uint64) Value { return Value{Kind: Int, N: n} }

// Raw is bytes.
func Raw(b []byte) Value { return Value{Kind: Bytes, B: octet.Joined(b)} }

// Seq is a list of copies: what becomes of the values given is nothing to it.
func Seq(tag int, list ...Value) Value {
	l, ok := copied(list, deepest)
	if !ok {
		l = []Value{{Kind: -1}} // as little valid as what was given
	}
	return Value{Kind: List, Tag: tag, L: l}
}

func copied(list []Value, room int) ([]Value, bool) {
	if room == 0 {
		return nil, len(list) == 0
	}
	var out []Value
	for _, v := range list {
		l, ok := copied(v.L, room-1)
		if !ok {
			return nil, false
		}
		v.B, v.L = octet.Joined(v.B), l
		out = append(out, v)
	}
	return out, true
}

// Right tells whether a value is valid.
func Right(v Value) bool { return right(v, 0) }

// Here, and in what reads values, lists is how many lists a value is in.
func right(v Value, lists int) bool {
	if lists >= api.MaxDeep || v.Tag < 0 || v.Tag > maxTag {
		return false
	}
	switch v.Kind {
	case Int:
		return len(v.B) == 0 && len(v.L) == 0
	case Bytes:
		return v.N == 0 && len(v.L) == 0
	case List:
		return v.N == 0 && len(v.B) == 0 && allRight(v.L, lists+1)
	}
	return false
}

func allRight(list []Value, lists int) bool {
	for _, v := range list {
		if !right(v, lists) {
			return false
		}
	}
	return true
}

// Same tells whether two values are the same, valid or not.
func Same(a, b Value) bool { return same(a, b, deepest) }

func same(a, b Value, room int) bool {
	if room == 0 || a.Kind != b.Kind || a.Tag != b.Tag || a.N != b.N || len(a.L) != len(b.L) {
		return false
	}
	if !octet.Equal(a.B, b.B) {
		return false
	}
	for i := range a.L {
		if !same(a.L[i], b.L[i], room-1) {
			return false
		}
	}
	return true
}
