package tlv

import (
	"bytes"
	"encoding/binary"
	"math"
	"slices"
	"testing"

	"ferryman/api"
)

// sample: n bytes of which no two neighbours are alike, none of them 0.
func sample(n int) []byte {
	b := make([]byte, n)
	for i := range b {
		b[i] = byte(i*7%251) + 1
	}
	return b
}

// roomy: the same bytes with spare room behind them that holds 0xEE, and that room.
func roomy(b []byte) (with, spare []byte) {
	whole := append(slices.Clone(b), bytes.Repeat([]byte{0xEE}, 40)...)
	return whole[:len(b)], whole[len(b):]
}

func untouched(spare []byte) bool { return len(bytes.Trim(spare, "\xee")) == 0 }

func field(tag uint8, v []byte) []byte {
	return append([]byte{tag, byte(len(v) >> 8), byte(len(v))}, v...)
}

func piece(v []byte) []byte { return field(0, v)[1:] }

func TestPut(t *testing.T) {
	for _, c := range []struct {
		name string
		b    string
		tag  uint8
		v    []byte
		want string
	}{
		{"the example", "", 5, []byte("ab"), "\x05\x00\x02ab"},
		{"one byte", "", 0, []byte{0}, "\x00\x00\x01\x00"},
		{"behind others", "\x05\x00\x02ab", 255, []byte("c"), "\x05\x00\x02ab\xff\x00\x01c"},
		{"behind what is no field", "xyz", 1, []byte("c"), "xyz\x01\x00\x01c"},
		{"a tag below the one ahead", "\x05\x00\x02ab", 4, []byte("c"), "\x05\x00\x02ab\x04\x00\x01c"},
		{"nothing behind nothing", "", 5, nil, ""},
		{"nothing behind others", "xyz", 5, nil, "xyz"},
		{"no bytes behind others", "xyz", 5, []byte{}, "xyz"},
	} {
		got, e := Put([]byte(c.b), c.tag, c.v)
		if e != api.OK || string(got) != c.want {
			t.Errorf("P2.1: Put, %s: %x, %d", c.name, got, e)
		}
	}
	if got, e := Put(nil, 9, nil); e != api.OK || len(got) != 0 {
		t.Errorf("P2.1: Put of nothing: %x, %d", got, e)
	}
}

func TestPutLengths(t *testing.T) {
	for _, n := range []int{1, 2, 255, 256, 257, 4096, 65534, 65535} {
		got, e := Put([]byte("ahead"), 7, sample(n))
		if e != api.OK || !bytes.Equal(got, append([]byte("ahead"), field(7, sample(n))...)) {
			t.Errorf("P2.1: Put of %d bytes: %d bytes, %d", n, len(got), e)
		}
	}
	for _, n := range []int{65536, 65537, 1 << 17} {
		if got, e := Put([]byte("ahead"), 7, sample(n)); e != api.ErrLong || got != nil {
			t.Errorf("P2.1: Put of %d bytes: %d bytes, %d", n, len(got), e)
		}
	}
}

func TestNumAndValue(t *testing.T) {
	for _, c := range []struct {
		n    uint64
		want string
	}{
		{0, ""}, {1, "\x01"}, {127, "\x7f"}, {128, "\x80"}, {255, "\xff"},
		{256, "\x01\x00"}, {258, "\x01\x02"}, {65535, "\xff\xff"}, {65536, "\x01\x00\x00"},
		{math.MaxUint64, "\xff\xff\xff\xff\xff\xff\xff\xff"},
		{1 << 63, "\x80\x00\x00\x00\x00\x00\x00\x00"},
		{0x0102030405060708, "\x01\x02\x03\x04\x05\x06\x07\x08"},
	} {
		if got := Num(c.n); string(got) != c.want {
			t.Errorf("P2.1: Num of %d is %x", c.n, got)
		}
		if got, e := Value([]byte(c.want)); got != c.n || e != api.OK {
			t.Errorf("P2.1: Value of %x is %d, %d", c.want, got, e)
		}
	}
}

// At both edges of each count of bytes, held against the library's eight bytes.
func TestNumAtEdges(t *testing.T) {
	for bit := range 64 {
		for _, n := range []uint64{1<<bit - 1, 1 << bit, 1<<bit + 1} {
			want := bytes.TrimLeft(binary.BigEndian.AppendUint64(nil, n), "\x00")
			if got := Num(n); !bytes.Equal(got, want) {
				t.Errorf("P2.1: Num of %d is %x", n, got)
			}
			if got, e := Value(want); got != n || e != api.OK {
				t.Errorf("P2.1: Value of %x is %d, %d", want, got, e)
			}
		}
	}
}

func TestValueRefused(t *testing.T) {
	for _, b := range []string{
		"\x00", "\x00\x00", "\x00\x01", "\x00\xff\xff\xff\xff\xff\xff\xff",
		"\x01\x02\x03\x04\x05\x06\x07\x08\x09", "\x00\x01\x02\x03\x04\x05\x06\x07\x08", "\x01\x00\x00\x00\x00\x00\x00\x00\x00",
	} {
		if n, e := Value([]byte(b)); e != api.ErrForm || n != 0 {
			t.Errorf("P2.1: Value of %x is %d, %d", b, n, e)
		}
	}
	if n, e := Value(sample(70000)); e != api.ErrForm || n != 0 {
		t.Errorf("P2.1: Value of 70000 bytes is %d, %d", n, e)
	}
	if n, e := Value(nil); e != api.OK || n != 0 {
		t.Errorf("P2.1: Value of nil is %d, %d", n, e)
	}
}

func TestParse(t *testing.T) {
	for _, b := range [][]byte{nil, {}} {
		if l, e := Parse(b); e != api.OK || len(l) != 0 {
			t.Errorf("P2.2: Parse of nothing: %v, %d", l, e)
		}
	}
	want := []api.Field{{Tag: 0, Value: []byte{0}}, {Tag: 1, Value: []byte("ab")}, {Tag: 9, Value: sample(256)}, {Tag: 255, Value: sample(65535)}}
	var b []byte
	for i, f := range want {
		b, _ = Put(b, f.Tag, f.Value)
		got, e := Parse(b)
		if e != api.OK || !sameFields(got, want[:i+1]) {
			t.Errorf("P2.2: Parse of %d fields: %d of them, %d", i+1, len(got), e)
		}
	}
}

func TestParseEveryTag(t *testing.T) {
	var b []byte
	for tag := range 256 {
		b, _ = Put(b, uint8(tag), []byte{byte(tag)})
	}
	l, e := Parse(b)
	if e != api.OK || len(l) != 256 {
		t.Fatalf("P2.2: Parse of all tags: %d fields, %d", len(l), e)
	}
	for i, f := range l {
		if int(f.Tag) != i || len(f.Value) != 1 || int(f.Value[0]) != i {
			t.Errorf("P2.2: Parse of all tags: field %d is %v", i, f)
		}
	}
}

func TestParseRefused(t *testing.T) {
	for _, c := range []struct {
		name string
		b    string
		want api.Errno
	}{
		{"a tag alone", "\x05", api.ErrShort},
		{"half a count", "\x05\x00", api.ErrShort},
		{"a count without bytes", "\x05\x00\x01", api.ErrShort},
		{"a byte too few", "\x05\x00\x03ab", api.ErrShort},
		{"far too few", "\x05\xff\xffab", api.ErrShort},
		{"a field, and a tag alone", "\x05\x00\x01a\x06", api.ErrShort},
		{"no bytes", "\x05\x00\x00", api.ErrEmpty},
		{"no bytes at tag 0", "\x00\x00\x00", api.ErrEmpty},
		{"no bytes in the midst", "\x05\x00\x01a\x06\x00\x00\x07\x00\x01b", api.ErrEmpty},
		{"a tag twice", "\x05\x00\x01a\x05\x00\x01b", api.ErrOrder},
		{"tag 0 twice", "\x00\x00\x01a\x00\x00\x01a", api.ErrOrder},
		{"tag 255 twice", "\xff\x00\x01a\xff\x00\x01a", api.ErrOrder},
		{"a tag that falls", "\x05\x00\x01a\x04\x00\x01b", api.ErrOrder},
		{"a tag that falls to 0", "\xff\x00\x01a\x00\x00\x01b", api.ErrOrder},
		{"a tag that falls behind the second", "\x01\x00\x01a\x03\x00\x01b\x02\x00\x01c", api.ErrOrder},
		{"short ahead of order", "\x05\x00\x01a\x05\x00\x02b", api.ErrShort},
		{"empty ahead of order", "\x05\x00\x01a\x05\x00\x00", api.ErrEmpty},
		{"the first field's empty, the second's short", "\x05\x00\x00\x06\x00", api.ErrEmpty},
		{"the second field's order, the third's short", "\x05\x00\x01a\x05\x00\x01a\x06\x00", api.ErrOrder},
		{"the second field's order, the third's empty", "\x05\x00\x01a\x05\x00\x01a\x06\x00\x00", api.ErrOrder},
	} {
		if l, e := Parse([]byte(c.b)); e != c.want || len(l) != 0 {
			t.Errorf("P2.2: Parse, %s: %v, %d", c.name, l, e)
		}
	}
}

func TestParseCut(t *testing.T) {
	var b []byte
	ends := map[int]int{0: 0}
	for i, n := range []int{1, 2, 300, 5} {
		b, _ = Put(b, uint8(i*3), sample(n))
		ends[len(b)] = i + 1
	}
	for i := range len(b) + 1 {
		l, e := Parse(b[:i])
		if n, whole := ends[i]; whole {
			if e != api.OK || len(l) != n {
				t.Errorf("P2.2: Parse cut at %d: %d fields, %d", i, len(l), e)
			}
		} else if e != api.ErrShort || len(l) != 0 {
			t.Errorf("P2.2: Parse cut at %d: %d fields, %d", i, len(l), e)
		}
	}
}

func TestPackAndUnpack(t *testing.T) {
	for _, c := range []struct {
		name string
		l    [][]byte
		want string
	}{
		{"nothing", nil, ""},
		{"an empty list", [][]byte{}, ""},
		{"one of no bytes", [][]byte{nil}, "\x00\x00"},
		{"three of no bytes", [][]byte{nil, {}, nil}, "\x00\x00\x00\x00\x00\x00"},
		{"one of one byte", [][]byte{{0}}, "\x00\x01\x00"},
		{"some", [][]byte{[]byte("x"), nil, []byte("yz")}, "\x00\x01x\x00\x00\x00\x02yz"},
		{"the greatest", [][]byte{sample(65535), []byte("a")}, "\xff\xff" + string(sample(65535)) + "\x00\x01a"},
	} {
		b, e := Pack(c.l)
		if e != api.OK || string(b) != c.want {
			t.Errorf("P2.2: Pack, %s: %d bytes, %d", c.name, len(b), e)
		}
		l, e := Unpack([]byte(c.want))
		if e != api.OK || !slices.EqualFunc(l, c.l, bytes.Equal) {
			t.Errorf("P2.2: Unpack, %s: %d pieces, %d", c.name, len(l), e)
		}
	}
}

func TestPackTooLong(t *testing.T) {
	for _, l := range [][][]byte{
		{sample(65536)},
		{[]byte("a"), sample(65536)},
		{sample(65536), []byte("a")},
		{sample(65535), sample(1 << 17)},
	} {
		if b, e := Pack(l); e != api.ErrLong || b != nil {
			t.Errorf("P2.2: Pack of %d and more: %d bytes, %d", len(l[0]), len(b), e)
		}
	}
}

func TestUnpackCut(t *testing.T) {
	var b []byte
	ends := map[int]int{0: 0}
	for i, n := range []int{1, 0, 0, 300, 5} {
		b = append(b, piece(sample(n))...)
		ends[len(b)] = i + 1
	}
	for i := range len(b) + 1 {
		l, e := Unpack(b[:i])
		if n, whole := ends[i]; whole {
			if e != api.OK || len(l) != n {
				t.Errorf("P2.2: Unpack cut at %d: %d pieces, %d", i, len(l), e)
			}
		} else if e != api.ErrShort || l != nil {
			t.Errorf("P2.2: Unpack cut at %d: %d pieces, %d", i, len(l), e)
		}
	}
}

func sameFields(a, b []api.Field) bool {
	return slices.EqualFunc(a, b, func(x, y api.Field) bool { return x.Tag == y.Tag && bytes.Equal(x.Value, y.Value) })
}

func TestPutLeavesAlone(t *testing.T) {
	for _, v := range []string{"", "v", "value"} {
		for _, ahead := range []string{"", "ahead"} {
			b, spareB := roomy([]byte(ahead))
			w, spareW := roomy([]byte(v))
			got, e := Put(b, 3, w)
			want := ahead
			if v != "" {
				want += string(field(3, []byte(v)))
			}
			if e != api.OK || string(b) != ahead || string(w) != v || !untouched(spareB) || !untouched(spareW) {
				t.Errorf("R6: Put of %q behind %q changed what it was handed", v, ahead)
			}
			// Each is written over in turn: the other must not feel it.
			got = append(got, "more"...)
			scribble(got)
			if string(b) != ahead || string(w) != v || !untouched(spareB) || !untouched(spareW) {
				t.Errorf("R6: Put of %q behind %q shares its answer with what it was handed", v, ahead)
			}
			got, _ = Put(b, 3, w)
			scribble(b)
			scribble(w)
			if string(got) != want {
				t.Errorf("R6: Put of %q behind %q keeps what it was handed", v, ahead)
			}
		}
	}
}

// Two fields put behind the same bytes must not meet.
func TestPutTwiceBehindTheSame(t *testing.T) {
	b, _ := Put(nil, 1, []byte("a"))
	x, _ := Put(b, 2, []byte("xx"))
	y, _ := Put(b, 2, []byte("yy"))
	z, _ := Put(b, 2, nil)
	z = append(z, "zzzzz"...)
	if string(b) != "\x01\x00\x01a" || string(x) != "\x01\x00\x01a\x02\x00\x02xx" || string(y) != "\x01\x00\x01a\x02\x00\x02yy" || len(z) != 9 {
		t.Errorf("R6: %x, %x, %x", b, x, y)
	}
}

func scribble(b []byte) {
	for i := range b {
		b[i] ^= 0x55
	}
}

func TestValuesLeaveAlone(t *testing.T) {
	b, spare := roomy([]byte{1, 2, 3})
	if n, e := Value(b); n != 0x010203 || e != api.OK || string(b) != "\x01\x02\x03" || !untouched(spare) {
		t.Error("R6: Value changed what it was handed")
	}
	x, y := Num(258), Num(258)
	scribble(x)
	if string(y) != "\x01\x02" || string(Num(258)) != "\x01\x02" {
		t.Error("R6: Num hands out the same memory twice")
	}
}

func TestParseLeavesAlone(t *testing.T) {
	text := string(field(1, []byte("one"))) + string(field(2, []byte("two")))
	b, spare := roomy([]byte(text))
	l, e := Parse(b)
	if e != api.OK || len(l) != 2 {
		t.Fatal("P2.2: Parse")
	}
	scribble(b)
	if string(l[0].Value) != "one" || string(l[1].Value) != "two" {
		t.Error("R6: Parse keeps what it was handed")
	}
	scribble(b)
	_ = append(l[0].Value, "and much more"...)
	scribble(l[0].Value)
	if string(b) != text || !untouched(spare) || string(l[1].Value) != "two" {
		t.Error("R6: Parse's values share memory")
	}
}

func TestUnpackLeavesAlone(t *testing.T) {
	text := string(piece([]byte("one"))) + string(piece(nil)) + string(piece([]byte("two")))
	b, spare := roomy([]byte(text))
	l, e := Unpack(b)
	if e != api.OK || len(l) != 3 {
		t.Fatal("P2.2: Unpack")
	}
	scribble(b)
	if string(l[0]) != "one" || string(l[2]) != "two" {
		t.Error("R6: Unpack keeps what it was handed")
	}
	scribble(b)
	_ = append(l[0], "and much more"...)
	_ = append(l[1], "and much more"...)
	scribble(l[0])
	if string(b) != text || !untouched(spare) || string(l[2]) != "two" {
		t.Error("R6: Unpack's pieces share memory")
	}
}

func TestPackLeavesAlone(t *testing.T) {
	v, spare := roomy([]byte("one"))
	l := make([][]byte, 2, 5)
	l[0], l[1] = v, v
	b, e := Pack(l)
	if e != api.OK || string(b) != "\x00\x03one\x00\x03one" {
		t.Fatal("P2.2: Pack")
	}
	scribble(b)
	if string(v) != "one" || !untouched(spare) || len(l[0]) != 3 || len(l[1]) != 3 || l[:5][2] != nil || l[:5][4] != nil {
		t.Error("R6: Pack changed or shares what it was handed")
	}
	b, _ = Pack(l)
	scribble(v)
	if string(b) != "\x00\x03one\x00\x03one" {
		t.Error("R6: Pack keeps what it was handed")
	}
}

// What is read is what would be put: nothing else is taken for fields or pieces.
func FuzzParse(f *testing.F) {
	f.Add([]byte("\x05\x00\x02ab"))
	f.Add([]byte("\x01\x00\x01a\x02\x00\x01b"))
	f.Add([]byte("\x01\x00\x00"))
	f.Add([]byte("\x00\x00\x00\x03abc"))
	f.Fuzz(func(t *testing.T, b []byte) {
		if l, e := Parse(b); e == api.OK {
			var back []byte
			for _, x := range l {
				back, _ = Put(back, x.Tag, x.Value)
			}
			if !bytes.Equal(back, b) {
				t.Errorf("P2.2: Parse of %x, put again: %x", b, back)
			}
		} else if l != nil {
			t.Error("R3: fields beside an error")
		}
		if l, e := Unpack(b); e == api.OK {
			if back, e := Pack(l); e != api.OK || !bytes.Equal(back, b) {
				t.Errorf("P2.2: Unpack of %x, packed again: %x", b, back)
			}
		} else if l != nil {
			t.Error("R3: pieces beside an error")
		}
		if n, e := Value(b); e == api.OK && !bytes.Equal(Num(n), b) {
			t.Errorf("P2.1: Value of %x is %d, which is %x", b, n, Num(n))
		}
	})
}
