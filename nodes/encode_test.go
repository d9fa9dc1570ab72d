package nodes

import (
	"bytes"
	"encoding/binary"
	"fmt"
	"math"
	"math/rand"
	"reflect"
	"slices"
	"strings"
	"testing"

	"ferryman/api"
)

// field: a field laid by hand, whatever its value.
func field(tag uint8, v string) string {
	return string([]byte{tag, byte(len(v) >> 8), byte(len(v))}) + v
}

// least: a number as the library's eight bytes, without the noughts ahead.
func least(n uint64) string {
	return string(bytes.TrimLeft(binary.BigEndian.AppendUint64(nil, n), "\x00"))
}

func number(tag uint8, n uint64) string { return field(tag, least(n)) }

// sumOf: a sum that is unlike others, no byte of it 0.
func sumOf(n byte) api.Hash {
	var h api.Hash
	for i := range h {
		h[i] = n + byte(i) + 1
	}
	return h
}

func sumField(tag uint8, h api.Hash) string { return field(tag, string(h[:])) }

var noughts = strings.Repeat("\x00", 32)

func long(n int) string { return strings.Repeat("x", n) }

func leafOf(key, value string) api.Node {
	return api.Node{Key: []byte(key), Value: []byte(value), Size: 1}
}

func innerOf(key string, height int, size uint64) api.Node {
	return api.Node{Key: []byte(key), Height: height, Size: size, Left: sumOf(1), Right: sumOf(2)}
}

// innerText: the bytes of innerOf.
func innerText(key string, height, size uint64) string {
	return field(1, key) + number(3, height) + number(4, size) + sumField(5, sumOf(1)) + sumField(6, sumOf(2))
}

// same: one node; a list that is empty may be nil (R5).
func same(x, y api.Node) bool {
	if !bytes.Equal(x.Key, y.Key) || !bytes.Equal(x.Value, y.Value) {
		return false
	}
	x.Key, x.Value, y.Key, y.Value = nil, nil, nil, nil
	return reflect.DeepEqual(x, y)
}

func wantRefused(t *testing.T, name string, b []byte, want api.Errno) {
	t.Helper()
	if n, e := Decode(b); e != want || !reflect.DeepEqual(n, api.Node{}) {
		t.Errorf("P7.1: Decode, %s: %v, %d; want %d", name, n, e, want)
	}
}

type nodeCase struct {
	name string
	n    api.Node
	want string
}

func nodeCases() []nodeCase {
	return []nodeCase{
		{"the example", leafOf("a", "x"), "\x01\x00\x01a\x02\x00\x01x"},
		{"a leaf without a value", leafOf("a", ""), "\x01\x00\x01a"},
		{"a leaf whose value is nil", api.Node{Key: []byte("a"), Size: 1}, "\x01\x00\x01a"},
		{"the longest key", leafOf(long(96), "x"), "\x01\x00\x60" + long(96) + "\x02\x00\x01x"},
		{"the longest value", leafOf("a", long(256)), "\x01\x00\x01a\x02\x01\x00" + long(256)},
		{"the longest of both", leafOf(long(96), long(256)), field(1, long(96)) + field(2, long(256))},
		{"255 bytes of a value", leafOf("a", long(255)), "\x01\x00\x01a\x02\x00\xff" + long(255)},
		{"bytes that are no letters", leafOf("\x00", "\x00\xff\x00"), field(1, "\x00") + field(2, "\x00\xff\x00")},
		{"an inner node", innerOf("b", 1, 2), "\x01\x00\x01b" + "\x03\x00\x01\x01" + "\x04\x00\x01\x02" + sumField(5, sumOf(1)) + sumField(6, sumOf(2))},
		{"an inner node, its value empty", api.Node{Key: []byte("b"), Value: []byte{}, Height: 1, Size: 2, Left: sumOf(1), Right: sumOf(2)}, innerText("b", 1, 2)},
		{"the longest key of an inner node", innerOf(long(96), 3, 7), innerText(long(96), 3, 7)},
		{"Height 63", innerOf("b", 63, 64), innerText("b", 63, 64)},
		{"Height 64", innerOf("b", 64, 300), innerText("b", 64, 300)},
		{"Size 1 of an inner node", innerOf("b", 1, 1), innerText("b", 1, 1)},
		{"Size 256", innerOf("b", 9, 256), innerText("b", 9, 256)},
		{"the greatest Size", innerOf("b", 2, math.MaxUint64), innerText("b", 2, math.MaxUint64)},
		{"sums of noughts", api.Node{Key: []byte("b"), Height: 1, Size: 2}, field(1, "b") + number(3, 1) + number(4, 2) + field(5, noughts) + field(6, noughts)},
		{"a Left of noughts", api.Node{Key: []byte("b"), Height: 1, Size: 2, Right: sumOf(2)}, field(1, "b") + number(3, 1) + number(4, 2) + field(5, noughts) + sumField(6, sumOf(2))},
		{"a Right of noughts", api.Node{Key: []byte("b"), Height: 1, Size: 2, Left: sumOf(1)}, field(1, "b") + number(3, 1) + number(4, 2) + sumField(5, sumOf(1)) + field(6, noughts)},
		{"noughts at a sum's ends", api.Node{Key: []byte("b"), Height: 1, Size: 2, Left: api.Hash{1: 1}, Right: api.Hash{30: 1}}, field(1, "b") + number(3, 1) + number(4, 2) + sumField(5, api.Hash{1: 1}) + sumField(6, api.Hash{30: 1})},
	}
}

func TestEncode(t *testing.T) {
	for _, c := range nodeCases() {
		if b, e := Encode(c.n); e != api.OK || string(b) != c.want {
			t.Errorf("P7.1: Encode, %s: %x, %d", c.name, b, e)
		}
		if n, e := Decode([]byte(c.want)); e != api.OK || !same(n, c.n) {
			t.Errorf("P7.1: Decode, %s: %v, %d", c.name, n, e)
		}
	}
}

func TestEncodeRefused(t *testing.T) {
	type refused struct {
		name string
		n    api.Node
		want api.Errno
	}
	withKey := func(n api.Node, key string) api.Node {
		n.Key = []byte(key)
		return n
	}
	full := leafOf("a", "x")
	cases := []refused{
		{"nothing", api.Node{}, api.ErrKey},
		{"a leaf without a key", leafOf("", "x"), api.ErrKey},
		{"a leaf whose key is nil", api.Node{Value: []byte("x"), Size: 1}, api.ErrKey},
		{"a leaf of a long key", leafOf(long(97), "x"), api.ErrKey},
		{"a leaf of a key of 352 bytes", leafOf(long(256+96), "x"), api.ErrKey},
		{"an inner node without a key", innerOf("", 1, 2), api.ErrKey},
		{"an inner node of a long key", innerOf(long(97), 1, 2), api.ErrKey},
		{"a key longer than a field", leafOf(long(65536), "x"), api.ErrKey},
		{"a long value", leafOf("a", long(257)), api.ErrNode},
		{"a value of 512 bytes", leafOf("a", long(512)), api.ErrNode},
		{"a value longer than a field", leafOf("a", long(65536)), api.ErrNode},
		{"a leaf of Size 0", api.Node{Key: full.Key, Value: full.Value}, api.ErrNode},
		{"a leaf of Size 2", api.Node{Key: full.Key, Size: 2}, api.ErrNode},
		{"a leaf of the greatest Size", api.Node{Key: full.Key, Size: math.MaxUint64}, api.ErrNode},
		{"a leaf of Size 2^32 and 1", api.Node{Key: full.Key, Size: 1<<32 + 1}, api.ErrNode},
		{"a leaf with a Left", api.Node{Key: full.Key, Size: 1, Left: sumOf(1)}, api.ErrNode},
		{"a leaf with a Right", api.Node{Key: full.Key, Size: 1, Right: sumOf(1)}, api.ErrNode},
		{"a leaf with both", api.Node{Key: full.Key, Size: 1, Left: sumOf(1), Right: sumOf(2)}, api.ErrNode},
		{"a leaf with one bit of a Left", api.Node{Key: full.Key, Size: 1, Left: api.Hash{31: 1}}, api.ErrNode},
		{"a leaf with one bit of a Right", api.Node{Key: full.Key, Size: 1, Right: api.Hash{128}}, api.ErrNode},
		{"an inner node with a value", api.Node{Key: full.Key, Value: []byte("x"), Height: 1, Size: 2}, api.ErrNode},
		{"Height 64 with a value", api.Node{Key: full.Key, Value: []byte{0}, Height: 64, Size: 2}, api.ErrNode},
		{"an inner node with a long value", api.Node{Key: full.Key, Value: []byte(long(257)), Height: 1, Size: 2}, api.ErrNode},
	}
	for _, h := range []int{-1, -2, -64, 65, 66, 128, 255, 256, 257, 320, 1 << 16, 1 << 32, 1<<32 + 1, math.MinInt, math.MinInt + 1, math.MaxInt, -1 << 32} {
		name := fmt.Sprint("Height ", h)
		cases = append(cases, refused{name, innerOf("b", h, 2), api.ErrNode},
			refused{name + " of what is else a leaf", api.Node{Key: full.Key, Value: full.Value, Height: h, Size: 1}, api.ErrNode})
	}
	for _, c := range cases {
		if b, e := Encode(c.n); e != c.want || len(b) != 0 {
			t.Errorf("P7.1: Encode, %s: %x, %d; want %d", c.name, b, e, c.want)
		}
		for _, key := range []string{"", long(97)} {
			if b, e := Encode(withKey(c.n, key)); e != api.ErrKey || len(b) != 0 {
				t.Errorf("P7.1: Encode, %s, with a key of %d bytes: %d; want ErrKey ahead", c.name, len(key), e)
			}
		}
	}
}

func TestEncodeKeys(t *testing.T) {
	for size := range 200 {
		key := long(size)
		for _, n := range []api.Node{leafOf(key, "x"), innerOf(key, 5, 9)} {
			b, e := Encode(n)
			if good := size >= 1 && size <= 96; good != (e == api.OK) || !good && e != api.ErrKey {
				t.Errorf("P7.1: Encode of a key of %d bytes: %d", size, e)
			} else if good && !strings.HasPrefix(string(b), field(1, key)) {
				t.Errorf("P7.1: Encode of a key of %d bytes: %x", size, b)
			}
		}
	}
}

func TestEncodeValues(t *testing.T) {
	for size := range 520 {
		b, e := Encode(leafOf("a", long(size)))
		if size > 256 {
			if e != api.ErrNode || len(b) != 0 {
				t.Errorf("P7.1: Encode of a value of %d bytes: %d", size, e)
			}
			continue
		}
		want := field(1, "a")
		if size > 0 {
			want += field(2, long(size))
		}
		if e != api.OK || string(b) != want {
			t.Errorf("P7.1: Encode of a value of %d bytes: %d", size, e)
		}
	}
}

func TestEncodeHeights(t *testing.T) {
	for h := -70; h < 400; h++ {
		b, e := Encode(innerOf("b", h, 2))
		if h < 1 || h > 64 {
			if e != api.ErrNode || len(b) != 0 {
				t.Errorf("P7.1: Encode of Height %d, Size 2, both sums: %d", h, e)
			}
			continue
		}
		if e != api.OK || string(b) != innerText("b", uint64(h), 2) {
			t.Errorf("P7.1: Encode of Height %d: %x, %d", h, b, e)
		}
	}
}

// An inner node of Size 0 has no field 4, as a field has a byte at least; read back, its Size would be 1, and those aren't its bytes.
func TestInnerNodeOfSizeNone(t *testing.T) {
	b, e := Encode(innerOf("b", 1, 0))
	if want := field(1, "b") + number(3, 1) + sumField(5, sumOf(1)) + sumField(6, sumOf(2)); e != api.OK || string(b) != want {
		t.Errorf("P7.1: Encode: %x, %d", b, e)
	}
	wantRefused(t, "an inner node of Size 0", b, api.ErrForm)
}

type refusal struct {
	name string
	b    string
	want api.Errno
}

// badFields: what Parse refuses.
func badFields() []refusal {
	return []refusal{
		{"a tag alone", "\x01", api.ErrShort},
		{"half a count", "\x01\x00", api.ErrShort},
		{"a byte too few", "\x01\x00\x02a", api.ErrShort},
		{"a leaf and a tag", field(1, "a") + "\x02", api.ErrShort},
		{"a leaf and a byte 0", field(1, "a") + field(2, "x") + "\x00", api.ErrShort},
		{"a key of no bytes", field(1, "") + field(2, "x"), api.ErrEmpty},
		{"a value of no bytes", field(1, "a") + field(2, ""), api.ErrEmpty},
		{"a Height of no bytes", field(1, "a") + field(3, ""), api.ErrEmpty},
		{"a Left of no bytes", field(1, "b") + number(3, 1) + number(4, 2) + field(5, "") + sumField(6, sumOf(2)), api.ErrEmpty},
		{"the key twice", field(1, "a") + field(1, "a"), api.ErrOrder},
		{"the value twice", field(1, "a") + field(2, "x") + field(2, "x"), api.ErrOrder},
		{"the Size twice", field(1, "b") + number(3, 1) + number(4, 2) + number(4, 2), api.ErrOrder},
		{"a leaf twice", field(1, "a") + field(2, "x") + field(1, "a") + field(2, "x"), api.ErrOrder},
		{"the value ahead of the key", field(2, "x") + field(1, "a"), api.ErrOrder},
		{"the Right ahead of the Left", field(1, "b") + number(3, 1) + number(4, 2) + sumField(6, sumOf(2)) + sumField(5, sumOf(1)), api.ErrOrder},
		{"the Size ahead of the Height", field(1, "b") + number(4, 2) + number(3, 1) + sumField(5, sumOf(1)) + sumField(6, sumOf(2)), api.ErrOrder},
		{"tag 0 behind", field(1, "a") + field(0, "x"), api.ErrOrder},
		{"a wrong number, then short", field(3, "\x00") + "\x04", api.ErrShort},
		{"another tag, then short", field(7, "x") + "\x08\x00", api.ErrShort},
		{"a wrong sum, then empty", field(5, "x") + field(6, ""), api.ErrEmpty},
		{"tag 0, then order", field(0, "x") + field(2, "x") + field(1, "a"), api.ErrOrder},
		{"a long key, then order", field(1, long(97)) + field(1, "a"), api.ErrOrder},
	}
}

// badForms: what is refused field by field: the first such field counts, and any of them ahead of what the node lacks.
func badForms() []refusal {
	return []refusal{
		{"tag 0 alone", field(0, "x"), api.ErrField},
		{"tag 0 ahead of a leaf", field(0, "x") + field(1, "a"), api.ErrField},
		{"tag 0 ahead of a wrong number", field(0, "x") + field(3, "\x00"), api.ErrField},
		{"tag 0 ahead of a wrong sum", field(0, "x") + field(5, "x"), api.ErrField},
		{"tag 7 alone", field(7, "x"), api.ErrField},
		{"tag 7 behind a leaf", field(1, "a") + field(2, "x") + field(7, "x"), api.ErrField},
		{"tag 7 behind an inner node", innerText("b", 1, 2) + field(7, "x"), api.ErrField},
		{"tag 255", field(1, "a") + field(255, "x"), api.ErrField},
		{"tag 7 with a sum", field(1, "a") + sumField(7, sumOf(3)), api.ErrField},
		{"tag 7 behind a long key", field(1, long(97)) + field(7, "x"), api.ErrField},
		{"tag 7 behind a long value", field(1, "a") + field(2, long(257)) + field(7, "x"), api.ErrField},
		{"tag 7 behind a great Height", field(1, "b") + number(3, 65) + field(7, "x"), api.ErrField},
		{"a wrong Height ahead of tag 7", field(1, "a") + field(3, "\x00") + field(7, "x"), api.ErrForm},
		{"a wrong Size ahead of tag 7", field(1, "a") + field(4, "\x00") + field(7, "x"), api.ErrForm},
		{"a wrong Right ahead of tag 7", field(1, "a") + field(6, "x") + field(7, "x"), api.ErrForm},
		{"a wrong Height without a key", field(3, "\x00"), api.ErrForm},
		{"a wrong Left without a key", field(5, "x"), api.ErrForm},
		{"a wrong Size behind a long key", field(1, long(97)) + field(4, "\x00\x01"), api.ErrForm},
		{"a wrong Size behind a great Height", field(1, "b") + number(3, 65) + field(4, "\x00"), api.ErrForm},
		{"a wrong Left behind a long value", field(1, "b") + field(2, long(300)) + field(5, "x"), api.ErrForm},
		{"a wrong Right of an inner node with a value", field(1, "b") + field(2, "x") + number(3, 1) + field(6, noughts[1:]), api.ErrForm},
	}
}

// badNodes: fields that are well each by itself, of a node that Encode refuses.
func badNodes() []refusal {
	return []refusal{
		{"nothing", "", api.ErrKey},
		{"no key", field(2, "x"), api.ErrKey},
		{"no key of an inner node", number(3, 1) + number(4, 2) + sumField(5, sumOf(1)) + sumField(6, sumOf(2)), api.ErrKey},
		{"a long key", field(1, long(97)), api.ErrKey},
		{"the longest field as a key", field(1, long(65535)), api.ErrKey},
		{"a long key of an inner node", innerText(long(97), 1, 2), api.ErrKey},
		{"no key ahead of a long value", field(2, long(257)), api.ErrKey},
		{"a long key ahead of a great Height", field(1, long(97)) + number(3, 65), api.ErrKey},
		{"no key ahead of Size 2", number(4, 2), api.ErrKey},
		{"a long value", field(1, "a") + field(2, long(257)), api.ErrNode},
		{"the longest field as a value", field(1, "a") + field(2, long(65535)), api.ErrNode},
		{"a value of an inner node", field(1, "b") + field(2, "x") + number(3, 1) + number(4, 2) + sumField(5, sumOf(1)) + sumField(6, sumOf(2)), api.ErrNode},
		{"a leaf of Size 2", field(1, "a") + field(2, "x") + number(4, 2), api.ErrNode},
		{"a leaf of the greatest Size", field(1, "a") + number(4, math.MaxUint64), api.ErrNode},
		{"a leaf of Size 256", field(1, "a") + number(4, 256), api.ErrNode},
		{"a leaf with a Left", field(1, "a") + sumField(5, sumOf(1)), api.ErrNode},
		{"a leaf with a Right", field(1, "a") + sumField(6, sumOf(1)), api.ErrNode},
		{"an inner node without its Height", field(1, "b") + number(4, 2) + sumField(5, sumOf(1)) + sumField(6, sumOf(2)), api.ErrNode},
		{"a great Height without sums", field(1, "b") + number(3, 65), api.ErrNode},
	}
}

// otherForms: fields of a node that has other bytes.
func otherForms() []refusal {
	return []refusal{
		{"a leaf of Size 1", field(1, "a") + field(2, "x") + number(4, 1), api.ErrForm},
		{"a leaf with a Left of noughts", field(1, "a") + field(5, noughts), api.ErrForm},
		{"a leaf with a Right of noughts", field(1, "a") + field(6, noughts), api.ErrForm},
		{"a leaf with both of noughts", field(1, "a") + field(2, "x") + number(4, 1) + field(5, noughts) + field(6, noughts), api.ErrForm},
		{"an inner node without its Size", field(1, "b") + number(3, 1) + sumField(5, sumOf(1)) + sumField(6, sumOf(2)), api.ErrForm},
		{"an inner node without its Left", field(1, "b") + number(3, 1) + number(4, 2) + sumField(6, sumOf(2)), api.ErrForm},
		{"an inner node without its Right", field(1, "b") + number(3, 1) + number(4, 2) + sumField(5, sumOf(1)), api.ErrForm},
		{"an inner node without both", field(1, "b") + number(3, 64) + number(4, 2), api.ErrForm},
		{"an inner node of a key and a Height", field(1, "b") + number(3, 1), api.ErrForm},
	}
}

func TestDecodeRefused(t *testing.T) {
	for _, c := range slices.Concat(badFields(), badForms(), badNodes(), otherForms()) {
		wantRefused(t, c.name, []byte(c.b), c.want)
	}
}

func TestDecodeNumbers(t *testing.T) {
	for _, tag := range []uint8{3, 4} {
		for _, v := range []string{"\x00", "\x00\x01", "\x00\x00\x02", "\x00\x00\x00\x00\x00\x00\x00\x01", "\x01\x02\x03\x04\x05\x06\x07\x08\x09", long(65535)} {
			wantRefused(t, fmt.Sprintf("field %d of %.20x", tag, v), []byte(field(1, "b")+field(tag, v)), api.ErrForm)
			wantRefused(t, fmt.Sprintf("field %d of %.20x, no key", tag, v), []byte(field(tag, v)), api.ErrForm)
		}
	}
	for _, h := range []uint64{65, 66, 128, 255, 256, 257, 320, 1 << 16, 1 << 31, 1 << 32, 1<<32 + 1, 1<<32 + 64, 1 << 63, 1<<63 + 1, 1<<63 - 1, math.MaxUint64 - 63, math.MaxUint64} {
		wantRefused(t, fmt.Sprint("Height ", h), []byte(innerText("b", h, 2)), api.ErrNode)
		wantRefused(t, fmt.Sprintf("Height %d, no key", h), []byte(number(3, h)), api.ErrKey)
	}
	for h := uint64(1); h <= 64; h++ {
		if n, e := Decode([]byte(innerText("b", h, h+1))); e != api.OK || n.Height != int(h) || n.Size != h+1 {
			t.Errorf("P7.1: Decode of Height %d: %v, %d", h, n, e)
		}
	}
	for _, size := range []uint64{1, 2, 255, 256, 1 << 32, 1<<63 - 1, 1 << 63, math.MaxUint64} {
		if n, e := Decode([]byte(innerText("b", 7, size))); e != api.OK || n.Size != size {
			t.Errorf("P7.1: Decode of Size %d: %v, %d", size, n, e)
		}
	}
}

func TestDecodeSums(t *testing.T) {
	for _, size := range []int{1, 2, 16, 31, 33, 34, 64, 256 + 32, 65535} {
		for _, fill := range []string{"x", "\x00"} {
			v := strings.Repeat(fill, size)
			name := fmt.Sprintf("a sum of %d bytes", size)
			head := field(1, "b") + number(3, 1) + number(4, 2)
			wantRefused(t, name+" to the left", []byte(head+field(5, v)+sumField(6, sumOf(2))), api.ErrForm)
			wantRefused(t, name+" to the right", []byte(head+sumField(5, sumOf(1))+field(6, v)), api.ErrForm)
			wantRefused(t, name+" of a leaf", []byte(field(1, "a")+field(6, v)), api.ErrForm)
		}
	}
}

// told: a second reader, which knows of each tag's field where it stood: what Decode must answer.
func told(b []byte) (n api.Node, e api.Errno) {
	var values [256][]byte
	var tags []byte
	for i := 0; i < len(b); {
		if len(b)-i < 3 || len(b)-i-3 < int(binary.BigEndian.Uint16(b[i+1:])) {
			return n, api.ErrShort
		}
		end := i + 3 + int(binary.BigEndian.Uint16(b[i+1:]))
		if end == i+3 {
			return n, api.ErrEmpty
		}
		if len(tags) > 0 && tags[len(tags)-1] >= b[i] {
			return n, api.ErrOrder
		}
		tags, values[b[i]] = append(tags, b[i]), b[i+3:end]
		i = end
	}
	for _, tag := range tags {
		v := values[tag]
		switch {
		case tag == 0 || tag > 6:
			return n, api.ErrField
		case (tag == 3 || tag == 4) && (len(v) > 8 || v[0] == 0), tag > 4 && len(v) != 32:
			return n, api.ErrForm
		}
	}
	key, value, height, size := values[1], values[2], of(values[3]), of(values[4])
	leaf := values[3] == nil
	blank := func(v []byte) bool { return v == nil || string(v) == noughts }
	switch {
	case len(key) == 0 || len(key) > 96:
		return n, api.ErrKey
	case leaf && (len(value) > 256 || size > 1 || !blank(values[5]) || !blank(values[6])):
		return n, api.ErrNode
	case !leaf && (value != nil || height > 64):
		return n, api.ErrNode
	case leaf && (values[4] != nil || values[5] != nil || values[6] != nil):
		return n, api.ErrForm
	case !leaf && (values[4] == nil || values[5] == nil || values[6] == nil):
		return n, api.ErrForm
	case leaf:
		return api.Node{Key: key, Value: value, Size: 1}, api.OK
	}
	return api.Node{Key: key, Height: int(height), Size: size, Left: api.Hash(values[5]), Right: api.Hash(values[6])}, api.OK
}

// of: the number of such bytes, by multiplying.
func of(v []byte) (n uint64) {
	for _, x := range v {
		n = n*256 + uint64(x)
	}
	return n
}

// wantAsTold: Decode answers what the second reader does, and what it takes is what Encode lays.
func wantAsTold(t *testing.T, name string, b []byte) {
	t.Helper()
	want, code := told(b)
	n, e := Decode(b)
	if e != code || !same(n, want) {
		t.Fatalf("P7.1: Decode, %s (%.200x): %v, %d; want %v, %d", name, b, n, e, want, code)
	}
	if e != api.OK {
		return
	}
	if again, e := Encode(n); e != api.OK || !bytes.Equal(again, b) {
		t.Fatalf("P7.1: other bytes decode to a node, %s: %x, and %x, %d", name, b, again, e)
	}
}

// wantJust: no bytes but b decode to its node, of those that lie near.
func wantJust(t *testing.T, name string, b []byte) {
	t.Helper()
	n, e := Decode(b)
	if e != api.OK {
		t.Fatalf("P7.1: Decode, %s: %d", name, e)
	}
	near := func(how string, x []byte) {
		t.Helper()
		wantAsTold(t, name+", "+how, x)
		if y, e := Decode(x); e == api.OK && same(y, n) {
			t.Fatalf("P7.1: %s, %s: %x is told as one node with %x", name, how, x, b)
		}
	}
	for bit := range 8 * len(b) {
		x := slices.Clone(b)
		x[bit/8] ^= 1 << (bit % 8)
		near(fmt.Sprint("bit turned: ", bit), x)
	}
	for size := range b {
		near(fmt.Sprint("cut at: ", size), b[:size])
		near(fmt.Sprint("cut ahead: ", size), b[len(b)-size:])
		near(fmt.Sprint("cut out: ", size), slices.Delete(slices.Clone(b), size, size+1))
		near(fmt.Sprint("a byte 0 at: ", size), slices.Insert(slices.Clone(b), size, 0))
	}
	for x := range 256 {
		near(fmt.Sprint("a byte more: ", x), append(slices.Clone(b), byte(x)))
		near(fmt.Sprint("a field more: ", x), append(slices.Clone(b), byte(x), 0, 1, 7))
		near(fmt.Sprint("a sum more: ", x), append(slices.Clone(b), sumField(byte(x), sumOf(9))...))
	}
	near("twice", append(slices.Clone(b), b...))
}

func TestBytesTurnedCutAndLonger(t *testing.T) {
	for _, c := range nodeCases() {
		wantAsTold(t, c.name, []byte(c.want))
		wantJust(t, c.name, []byte(c.want))
	}
}

// Every list of up to seven fields out of a few kinds, in rising order and not.
func TestFieldsLaidTogether(t *testing.T) {
	pieces := [][]string{
		{"", field(0, "x")},
		{"", field(1, "a"), field(1, long(96)), field(1, long(97)), field(1, "a") + field(1, "a")},
		{"", field(2, "x"), field(2, long(256)), field(2, long(257))},
		{"", number(3, 1), number(3, 64), number(3, 65), field(3, "\x00"), number(3, 1<<63)},
		{"", number(4, 1), number(4, 2), field(4, "\x00\x02"), field(4, long(9))},
		{"", field(5, noughts), sumField(5, sumOf(1)), field(5, noughts[:31]), field(5, noughts+"x")},
		{"", field(6, noughts), sumField(6, sumOf(2)), field(6, long(31)), field(6, long(33))},
		{"", field(7, "x"), "\x07"},
	}
	var lay func(b string, rest [][]string)
	codes := map[api.Errno]int{}
	lay = func(b string, rest [][]string) {
		if len(rest) == 0 {
			wantAsTold(t, "laid together", []byte(b))
			_, e := Decode([]byte(b))
			codes[e]++
			return
		}
		for _, p := range rest[0] {
			lay(b+p, rest[1:])
		}
	}
	lay("", pieces)
	for _, e := range []api.Errno{api.OK, api.ErrShort, api.ErrOrder, api.ErrField, api.ErrForm, api.ErrKey, api.ErrNode} {
		if codes[e] == 0 {
			t.Errorf("no list of fields came to %d", e)
		}
	}
}

func TestDecodeOfEncode(t *testing.T) {
	r := rand.New(rand.NewSource(7))
	text := func(most int) []byte {
		b := make([]byte, r.Intn(most+1))
		r.Read(b)
		return b
	}
	seen := map[string]api.Node{}
	for range 20000 {
		n := api.Node{Key: append([]byte{byte(r.Intn(256))}, text(95)...), Size: 1}
		if r.Intn(2) == 0 {
			n.Value = text(256)
		} else {
			n.Height, n.Size = 1+r.Intn(64), 1+r.Uint64()>>r.Intn(64)%math.MaxUint64
			r.Read(n.Left[:])
			r.Read(n.Right[:])
		}
		b, e := Encode(n)
		if e != api.OK {
			t.Fatalf("P7.1: Encode of %v: %d", n, e)
		}
		if back, e := Decode(b); e != api.OK || !same(back, n) {
			t.Fatalf("P7.1: Decode of Encode of %v: %v, %d", n, back, e)
		}
		if other, is := seen[string(b)]; is && !same(other, n) {
			t.Fatalf("P7.1: %v and %v have the same bytes", n, other)
		}
		seen[string(b)] = n
	}
}

// roomy: the same bytes with spare room behind them that holds 0xEE, and all of it.
func roomy(b []byte) (with, whole []byte) {
	whole = append(slices.Clone(b), bytes.Repeat([]byte{0xEE}, 40)...)
	return whole[:len(b)], whole
}

func scribble(b []byte) {
	for i := range b {
		b[i] ^= 0x55
	}
}

// reachAll: a list of bytes with its spare room.
func reachAll(b []byte) []byte { return b[:cap(b)] }

func TestEncodeLeavesAlone(t *testing.T) {
	for _, c := range nodeCases() {
		n := c.n
		var key, value []byte
		n.Key, key = roomy(c.n.Key)
		n.Value, value = roomy(c.n.Value)
		keyWas, valueWas := slices.Clone(key), slices.Clone(value)
		b, e := Encode(n)
		if e != api.OK || !bytes.Equal(key, keyWas) || !bytes.Equal(value, valueWas) {
			t.Errorf("R6: Encode, %s: it changed what was handed in, or its spare room; %d", c.name, e)
		}
		scribble(key)
		scribble(value)
		if string(b) != c.want {
			t.Errorf("R6: Encode, %s: the answer hangs on what was handed in", c.name)
		}
		copy(key, keyWas)
		copy(value, valueWas)
		scribble(reachAll(b))
		if !bytes.Equal(key, keyWas) || !bytes.Equal(value, valueWas) {
			t.Errorf("R6: Encode, %s: what was handed in hangs on the answer", c.name)
		}
		if again, e := Encode(n); e != api.OK || string(again) != c.want {
			t.Errorf("R6: Encode, %s: a changed answer changes the next one", c.name)
		}
	}
}

func TestDecodeLeavesAlone(t *testing.T) {
	for _, c := range nodeCases() {
		b, whole := roomy([]byte(c.want))
		was := slices.Clone(whole)
		n, e := Decode(b)
		if e != api.OK || !bytes.Equal(whole, was) {
			t.Errorf("R6: Decode, %s: it changed what was handed in, or its spare room; %d", c.name, e)
		}
		scribble(whole)
		if !same(n, c.n) {
			t.Errorf("R6: Decode, %s: the answer hangs on what was handed in", c.name)
		}
		copy(whole, was)
		scribble(reachAll(n.Key))
		if !bytes.Equal(n.Value, c.n.Value) {
			t.Errorf("R6: Decode, %s: key and value share memory", c.name)
		}
		scribble(reachAll(n.Value))
		if !bytes.Equal(whole, was) {
			t.Errorf("R6: Decode, %s: what was handed in hangs on the answer", c.name)
		}
		if again, e := Decode(b); e != api.OK || !same(again, c.n) {
			t.Errorf("R6: Decode, %s: a changed answer changes the next one", c.name)
		}
	}
}

// What is refused is left alone, too.
func TestRefusedIsLeftAlone(t *testing.T) {
	for _, c := range slices.Concat(badFields(), badForms(), badNodes(), otherForms()) {
		b, whole := roomy([]byte(c.b))
		was := slices.Clone(whole)
		Decode(b)
		if !bytes.Equal(whole, was) {
			t.Errorf("R6: Decode, %s: it changed what was handed in", c.name)
		}
	}
}

func FuzzDecode(f *testing.F) {
	for _, c := range nodeCases() {
		f.Add([]byte(c.want))
	}
	for _, c := range slices.Concat(badFields(), badForms(), badNodes(), otherForms()) {
		f.Add([]byte(c.b))
	}
	f.Fuzz(func(t *testing.T, b []byte) { wantAsTold(t, "fuzzed", b) })
}

func FuzzEncode(f *testing.F) {
	f.Add([]byte("a"), []byte("x"), 0, uint64(1), []byte{}, []byte{})
	f.Add([]byte("b"), []byte{}, 1, uint64(2), []byte{1}, []byte{2})
	f.Add([]byte{}, []byte{}, -1, uint64(0), []byte{}, []byte{0})
	f.Add([]byte("b"), []byte{}, 65, uint64(math.MaxUint64), []byte{1}, []byte{2})
	f.Fuzz(func(t *testing.T, key, value []byte, height int, size uint64, left, right []byte) {
		n := api.Node{Key: key, Value: value, Height: height, Size: size}
		copy(n.Left[:], left)
		copy(n.Right[:], right)
		want := api.OK
		leaf := height == 0
		switch none := (api.Hash{}); {
		case len(key) == 0 || len(key) > 96:
			want = api.ErrKey
		case height < 0 || height > 64 || len(value) > 256 || !leaf && len(value) > 0:
			want = api.ErrNode
		case leaf && (size != 1 || n.Left != none || n.Right != none):
			want = api.ErrNode
		}
		b, e := Encode(n)
		if e != want || e != api.OK && len(b) != 0 {
			t.Fatalf("P7.1: Encode of %v: %x, %d; want %d", n, b, e, want)
		}
		if e != api.OK {
			return
		}
		back, e := Decode(b)
		if size == 0 {
			if e != api.ErrForm {
				t.Fatalf("P7.1: Decode of an inner node of Size 0: %d", e)
			}
		} else if e != api.OK || !same(back, n) {
			t.Fatalf("P7.1: Decode of Encode of %v: %v, %d", n, back, e)
		}
	})
}
