package nodes

import (
	"bytes"

	"ferryman/api"
	"ferryman/tlv"
)

// The fields' tags, named so that what is laid and what is read can't differ.
const (
	keyTag    = 1
	valueTag  = 2
	heightTag = 3
	sizeTag   = 4
	leftTag   = 5
	rightTag  = 6
)

// Encode: a node as bytes.
func Encode(n api.Node) ([]byte, api.Errno) {
	if len(n.Key) < 1 || len(n.Key) > api.MaxKey {
		return nil, api.ErrKey
	}
	if !mayBe(n) {
		return nil, api.ErrNode
	}
	var b []byte
	// There is no error to answer: nothing that may be in a node is longer than a field may be.
	put := func(tag uint8, v []byte) { b, _ = tlv.Put(b, tag, v) }
	put(keyTag, n.Key)
	put(valueTag, n.Value)
	put(heightTag, tlv.Num(uint64(n.Height)))
	if n.Height > 0 {
		put(sizeTag, tlv.Num(n.Size))
		put(leftTag, n.Left[:])
		put(rightTag, n.Right[:])
	}
	return b, api.OK
}

// mayBe: is there, beside its key, nothing in a node that no leaf and no inner one has?
func mayBe(n api.Node) bool {
	if n.Height < 0 || n.Height > api.MaxTurns {
		return false
	}
	if n.Height > 0 {
		return len(n.Value) == 0
	}
	bare := n.Left == (api.Hash{}) && n.Right == (api.Hash{})
	return len(n.Value) <= api.MaxValue && n.Size == 1 && bare
}

// Decode: back.
func Decode(b []byte) (api.Node, api.Errno) {
	fields, e := tlv.Parse(b)
	if e != api.OK {
		return api.Node{}, e
	}
	n := api.Node{Size: 1}
	for _, f := range fields {
		if e := take(&n, f); e != api.OK {
			return api.Node{}, e
		}
	}
	again, e := Encode(n)
	if e != api.OK {
		return api.Node{}, e
	}
	// Fields that a node of this kind hasn't, or that it lacks, show only here.
	if !bytes.Equal(again, b) {
		return api.Node{}, api.ErrForm
	}
	return n, api.OK
}

// take: what a field says of a node.
func take(n *api.Node, f api.Field) (e api.Errno) {
	switch f.Tag {
	case keyTag:
		n.Key = f.Value
	case valueTag:
		n.Value = f.Value
	case heightTag:
		n.Height, e = height(f.Value)
	case sizeTag:
		n.Size, e = tlv.Value(f.Value)
	case leftTag:
		n.Left, e = sum(f.Value)
	case rightTag:
		n.Right, e = sum(f.Value)
	default:
		e = api.ErrField
	}
	return e
}

// height: any that is too great is one above the greatest, as an int may not hold it.
func height(v []byte) (int, api.Errno) {
	n, e := tlv.Value(v)
	return int(min(n, api.MaxTurns+1)), e
}

func sum(v []byte) (api.Hash, api.Errno) {
	if len(v) != len(api.Hash{}) {
		return api.Hash{}, api.ErrForm
	}
	return api.Hash(v), api.OK
}
