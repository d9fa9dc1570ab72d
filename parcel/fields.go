package parcel

import (
	"ferryman/api"
	"ferryman/tlv"
)

// tooLong: has one of the texts more bytes than a field may have?
func tooLong(texts ...string) bool {
	for _, s := range texts {
		if len(s) > api.MaxField {
			return true
		}
	}
	return false
}

// put: a field behind others. There is no error to answer: texts are measured ahead, numbers and sums are short.
func put(b []byte, tag uint8, v []byte) []byte {
	b, _ = tlv.Put(b, tag, v)
	return b
}

func putNumber(b []byte, tag uint8, n uint64) []byte { return put(b, tag, tlv.Num(n)) }

func putText(b []byte, tag uint8, s string) []byte { return put(b, tag, []byte(s)) }

// putSum: a sum as a field; one of noughts is none, as it is what a sum that isn't there is read as.
func putSum(b []byte, tag uint8, h api.Hash) []byte {
	if h == (api.Hash{}) {
		return b
	}
	return put(b, tag, sumBytes(h))
}

func sumBytes(h api.Hash) []byte {
	b := make([]byte, len(h))
	copy(b, h[:])
	return b
}

// reader takes field by field in the order of their tags. The first error that it meets stays, so that whoever reads need ask for it but once, at the end.
type reader struct {
	left []api.Field
	code api.Errno
}

func open(b []byte) *reader {
	fields, e := tlv.Parse(b)
	return &reader{left: fields, code: e}
}

// refuse: e, if bad, and if it is the first.
func (r *reader) refuse(bad bool, e api.Errno) {
	if bad && r.code == api.OK {
		r.code = e
	}
}

// take: the value of the next field, if it has that tag; else none, and the field stays: one of tag 0 is never taken, and so neither is any behind it.
func (r *reader) take(tag uint8) []byte {
	if len(r.left) == 0 || r.left[0].Tag != tag {
		return nil
	}
	v := r.left[0].Value
	r.left = r.left[1:]
	return v
}

func (r *reader) number(tag uint8) uint64 {
	n, e := tlv.Value(r.take(tag))
	r.refuse(e != api.OK, e)
	return n
}

func (r *reader) text(tag uint8) string { return string(r.take(tag)) }

func (r *reader) sum(tag uint8) api.Hash {
	var h api.Hash
	v := r.take(tag)
	if len(v) == 0 {
		return h
	}
	copy(h[:], v)
	r.refuse(len(v) != len(h) || h == (api.Hash{}), api.ErrForm)
	return h
}

// end: the first error; a field that is left is the last that there may be.
func (r *reader) end() api.Errno {
	r.refuse(len(r.left) > 0, api.ErrField)
	return r.code
}
