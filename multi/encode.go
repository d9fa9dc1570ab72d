package multi

import (
	"bytes"

	"ferryman/api"
	"ferryman/tlv"
)

// The fields' tags, named so that what is laid and what is read can't differ.
const (
	kindTag   = 1
	hashTag   = 2
	keyTag    = 3
	valueTag  = 4
	heightTag = 5
	sizeTag   = 6
)

// A greater Kind or Height is taken for these, as its type may not hold it; they are refused as well.
const (
	anyKind   = 255
	anyHeight = 1 << 20
)

// Encode: tokens as bytes.
func Encode(l []api.Token) ([]byte, api.Errno) {
	if len(l) > api.MaxTokens {
		return nil, api.ErrLong
	}
	var pieces [][]byte
	for _, t := range l {
		fields, e := fieldsOf(t)
		if e != api.OK {
			return nil, e
		}
		piece, e := lay(fields)
		if e != api.OK {
			return nil, e
		}
		pieces = append(pieces, piece)
	}
	b, e := tlv.Pack(pieces)
	if e != api.OK {
		return nil, e
	}
	if len(b) > api.MaxBytes {
		return nil, api.ErrLong
	}
	return b, api.OK
}

// fieldsOf: a token's fields, those of its kind alone.
func fieldsOf(t api.Token) ([]api.Field, api.Errno) {
	kind := api.Field{Tag: kindTag, Value: tlv.Num(uint64(t.Kind))}
	switch t.Kind {
	case api.THidden:
		return []api.Field{kind, {Tag: hashTag, Value: t.Hash[:]}}, api.OK
	case api.TLeaf:
		return []api.Field{kind, {Tag: keyTag, Value: t.Key}, {Tag: valueTag, Value: t.Value}}, api.OK
	case api.TInner:
		if t.Height < 1 || t.Height > mostHeight {
			return nil, api.ErrNode
		}
		return []api.Field{kind, {Tag: heightTag, Value: tlv.Num(uint64(t.Height))}, {Tag: sizeTag, Value: tlv.Num(t.Size)}}, api.OK
	}
	return nil, api.ErrKind
}

// lay: fields one behind the other.
func lay(fields []api.Field) ([]byte, api.Errno) {
	var b []byte
	for _, f := range fields {
		var e api.Errno
		if b, e = tlv.Put(b, f.Tag, f.Value); e != api.OK {
			return nil, e
		}
	}
	return b, api.OK
}

// Decode: back.
func Decode(b []byte) ([]api.Token, api.Errno) {
	if len(b) > api.MaxBytes {
		return nil, api.ErrLong
	}
	pieces, e := tlv.Unpack(b)
	if e != api.OK {
		return nil, e
	}
	var l []api.Token
	for _, piece := range pieces {
		t, e := readToken(piece)
		if e != api.OK {
			return nil, e
		}
		l = append(l, t)
	}
	// What Encode refuses, as too many tokens or another kind, is looked for there alone; fields of another kind, or that lack, by what it lays.
	again, e := Encode(l)
	if e != api.OK {
		return nil, e
	}
	if !bytes.Equal(again, b) {
		return nil, api.ErrField
	}
	return l, api.OK
}

func readToken(b []byte) (api.Token, api.Errno) {
	fields, e := tlv.Parse(b)
	if e != api.OK {
		return api.Token{}, e
	}
	var t api.Token
	for _, f := range fields {
		if e := take(&t, f); e != api.OK {
			return api.Token{}, e
		}
	}
	return t, api.OK
}

// take: what a field says of a token.
func take(t *api.Token, f api.Field) (e api.Errno) {
	var n uint64
	switch f.Tag {
	case kindTag:
		n, e = tlv.Value(f.Value)
		t.Kind = api.TokenKind(min(n, anyKind))
	case hashTag:
		t.Hash, e = sum(f.Value)
	case keyTag:
		t.Key = f.Value
	case valueTag:
		t.Value = f.Value
	case heightTag:
		n, e = tlv.Value(f.Value)
		t.Height = int(min(n, anyHeight))
	case sizeTag:
		t.Size, e = tlv.Value(f.Value)
	default:
		e = api.ErrField
	}
	return e
}

func sum(v []byte) (api.Hash, api.Errno) {
	if len(v) != len(api.Hash{}) {
		return api.Hash{}, api.ErrForm
	}
	return api.Hash(v), api.OK
}
