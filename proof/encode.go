package proof

import (
	"bytes"

	"ferryman/api"
	"ferryman/tlv"
)

// The fields' tags, named so that what is laid and what is read can't differ.
const (
	keyTag   = 1
	valueTag = 2
	turnsTag = 3

	heightTag = 1
	sizeTag   = 2
	rightTag  = 3
	otherTag  = 4

	leftSideTag  = 1
	rightSideTag = 2
)

// yes is the byte by which a turn says that it goes to the right.
const yes = 1

// mostHeight: a greater Height is taken for it, as an int may not hold it; it is refused as well.
const mostHeight = 1 << 20

// Encode: a proof as bytes.
func Encode(p api.Proof) ([]byte, api.Errno) {
	if len(p.Turns) > api.MaxTurns {
		return nil, api.ErrLong
	}
	var turns [][]byte
	for _, t := range p.Turns {
		if t.Height < 1 || t.Height > api.MaxTurns {
			return nil, api.ErrNode
		}
		turns = append(turns, turnBytes(t))
	}
	packed, _ := tlv.Pack(turns) // no error: each of them is short
	return lay([]api.Field{{Tag: keyTag, Value: p.Key}, {Tag: valueTag, Value: p.Value}, {Tag: turnsTag, Value: packed}})
}

// turnBytes: a turn as bytes. There is no error to answer: all of its fields are short.
func turnBytes(t api.Turn) []byte {
	fields := []api.Field{{Tag: heightTag, Value: tlv.Num(uint64(t.Height))}, {Tag: sizeTag, Value: tlv.Num(t.Size)}}
	if t.Right {
		fields = append(fields, api.Field{Tag: rightTag, Value: []byte{yes}})
	}
	b, _ := lay(append(fields, api.Field{Tag: otherTag, Value: t.Other[:]}))
	return b
}

// lay: fields one behind the other.
func lay(fields []api.Field) ([]byte, api.Errno) {
	var b []byte
	for _, f := range fields {
		var e api.Errno
		if b, e = tlv.Put(b, f.Tag, f.Value); e != api.OK {
			return nil, e
		}
	}
	return b, api.OK
}

// Decode: back.
func Decode(b []byte) (api.Proof, api.Errno) {
	fields, e := tlv.Parse(b)
	if e != api.OK {
		return api.Proof{}, e
	}
	var p api.Proof
	for _, f := range fields {
		if e := take(&p, f); e != api.OK {
			return api.Proof{}, e
		}
	}
	// What Encode refuses, as too many turns, is looked for there alone.
	if _, e := Encode(p); e != api.OK {
		return api.Proof{}, e
	}
	return p, api.OK
}

// take: what a field says of a proof.
func take(p *api.Proof, f api.Field) (e api.Errno) {
	switch f.Tag {
	case keyTag:
		p.Key = f.Value
	case valueTag:
		p.Value = f.Value
	case turnsTag:
		p.Turns, e = readTurns(f.Value)
	default:
		e = api.ErrField
	}
	return e
}

func readTurns(b []byte) ([]api.Turn, api.Errno) {
	pieces, e := tlv.Unpack(b)
	if e != api.OK {
		return nil, e
	}
	var turns []api.Turn
	for _, piece := range pieces {
		t, e := readTurn(piece)
		if e != api.OK {
			return nil, e
		}
		turns = append(turns, t)
	}
	return turns, api.OK
}

func readTurn(b []byte) (api.Turn, api.Errno) {
	fields, e := tlv.Parse(b)
	if e != api.OK {
		return api.Turn{}, e
	}
	var t api.Turn
	for _, f := range fields {
		if e := takeTurn(&t, f); e != api.OK {
			return api.Turn{}, e
		}
	}
	// Unlike the others, Other is laid whatever it is, so that its lack is a fault.
	if len(fields) == 0 || fields[len(fields)-1].Tag != otherTag {
		return api.Turn{}, api.ErrField
	}
	return t, api.OK
}

// takeTurn: what a field says of a turn.
func takeTurn(t *api.Turn, f api.Field) (e api.Errno) {
	switch f.Tag {
	case heightTag:
		t.Height, e = height(f.Value)
	case sizeTag:
		t.Size, e = tlv.Value(f.Value)
	case rightTag:
		t.Right, e = isYes(f.Value)
	case otherTag:
		t.Other, e = sum(f.Value)
	default:
		e = api.ErrField
	}
	return e
}

func height(v []byte) (int, api.Errno) {
	n, e := tlv.Value(v)
	return int(min(n, mostHeight)), e
}

func isYes(v []byte) (bool, api.Errno) {
	if !bytes.Equal(v, []byte{yes}) {
		return false, api.ErrForm
	}
	return true, api.OK
}

func sum(v []byte) (api.Hash, api.Errno) {
	if len(v) != len(api.Hash{}) {
		return api.Hash{}, api.ErrForm
	}
	return api.Hash(v), api.OK
}

// EncodeGap: a gap as bytes.
func EncodeGap(g api.Gap) ([]byte, api.Errno) {
	b, e := putSide(nil, leftSideTag, g.Left)
	if e != api.OK {
		return nil, e
	}
	return putSide(b, rightSideTag, g.Right)
}

// putSide: a side as a field behind others; none, if it isn't there.
func putSide(b []byte, tag uint8, p *api.Proof) ([]byte, api.Errno) {
	if p == nil {
		return b, api.OK
	}
	v, e := Encode(*p)
	if e != api.OK {
		return nil, e
	}
	return tlv.Put(b, tag, v)
}

// DecodeGap: back.
func DecodeGap(b []byte) (api.Gap, api.Errno) {
	fields, e := tlv.Parse(b)
	if e != api.OK {
		return api.Gap{}, e
	}
	var g api.Gap
	for _, f := range fields {
		if e := takeSide(&g, f); e != api.OK {
			return api.Gap{}, e
		}
	}
	return g, api.OK
}

// takeSide: what a field says of a gap.
func takeSide(g *api.Gap, f api.Field) api.Errno {
	if f.Tag != leftSideTag && f.Tag != rightSideTag {
		return api.ErrField
	}
	p, e := Decode(f.Value)
	if e != api.OK {
		return e
	}
	if f.Tag == leftSideTag {
		g.Left = &p
	} else {
		g.Right = &p
	}
	return api.OK
}
