package multi

import (
	"bytes"
	"fmt"
	"math"
	"slices"
	"strings"
	"testing"

	"ferryman/api"
	"ferryman/tree"
)

// tokenOf: a token's bytes by hand: fields as texts, of tags 1 to 6, each left out if empty.
func tokenOf(values ...string) string {
	b := ""
	for i, v := range values {
		b += some(uint8(i+1), v)
	}
	return piece(b)
}

var (
	other   = strings.Repeat("o", 32)
	noughts = strings.Repeat("\x00", 32)
)

type tokenCase struct {
	name string
	l    []api.Token
	want string
}

func tokenCases() []tokenCase {
	o := api.Hash([]byte(other))
	return []tokenCase{
		{"none", nil, ""},
		{"a hidden one", []api.Token{{Kind: 1, Hash: o}}, "\x00\x27" + "\x01\x00\x01\x01" + "\x02\x00\x20" + other},
		{"a hidden one of noughts", []api.Token{{Kind: 1}}, "\x00\x27" + "\x01\x00\x01\x01" + "\x02\x00\x20" + noughts},
		{"a leaf", []api.Token{{Kind: 2, Key: []byte("ab"), Value: []byte("c")}}, "\x00\x0d" + "\x01\x00\x01\x02" + "\x03\x00\x02ab" + "\x04\x00\x01c"},
		{"a leaf without a value", []api.Token{{Kind: 2, Key: []byte("ab")}}, "\x00\x09" + "\x01\x00\x01\x02" + "\x03\x00\x02ab"},
		{"a leaf without a key", []api.Token{{Kind: 2, Value: []byte("c")}}, "\x00\x08" + "\x01\x00\x01\x02" + "\x04\x00\x01c"},
		{"a leaf of nothing", []api.Token{{Kind: 2}}, "\x00\x04" + "\x01\x00\x01\x02"},
		{"an inner one", []api.Token{{Kind: 3, Height: 2, Size: 258}}, "\x00\x0d" + "\x01\x00\x01\x03" + "\x05\x00\x01\x02" + "\x06\x00\x02\x01\x02"},
		{"an inner one of no Size", []api.Token{{Kind: 3, Height: 64}}, "\x00\x08" + "\x01\x00\x01\x03" + "\x05\x00\x01\x40"},
		{"an inner one of the greatest Size", []api.Token{{Kind: 3, Height: 1, Size: math.MaxUint64}}, "\x00\x13" + "\x01\x00\x01\x03" + "\x05\x00\x01\x01" + "\x06\x00\x08" + strings.Repeat("\xff", 8)},
		{"more of them", []api.Token{{Kind: 3, Height: 1, Size: 2}, {Kind: 2, Key: []byte("a")}, {Kind: 1, Hash: o}}, tokenOf("\x03", "", "", "", "\x01", "\x02") + tokenOf("\x02", "", "a") + tokenOf("\x01", other)},
		{"no tree", []api.Token{{Kind: 2, Key: []byte("b")}, {Kind: 2, Key: []byte("a")}, {Kind: 3, Height: 1}, {Kind: 3, Height: 64}}, tokenOf("\x02", "", "b") + tokenOf("\x02", "", "a") + tokenOf("\x03", "", "", "", "\x01") + tokenOf("\x03", "", "", "", "\x40")},
		{"a key and a value that are too long for a leaf", []api.Token{{Kind: 2, Key: make([]byte, 97), Value: make([]byte, 257)}}, tokenOf("\x02", "", strings.Repeat("\x00", 97), strings.Repeat("\x00", 257))},
		{"the longest key that a piece has room for", []api.Token{{Kind: 2, Key: make([]byte, 65527)}}, tokenOf("\x02", "", strings.Repeat("\x00", 65527))},
		{"the longest value that a piece has room for", []api.Token{{Kind: 2, Key: []byte("k"), Value: make([]byte, 65523)}}, tokenOf("\x02", "", "k", strings.Repeat("\x00", 65523))},
	}
}

func TestEncode(t *testing.T) {
	for _, c := range tokenCases() {
		b, e := Encode(c.l)
		if e != api.OK || string(b) != c.want {
			t.Errorf("P10.5: Encode of %s: %.60x, %d, not %.60x", c.name, b, e, c.want)
		}
		l, e := Decode([]byte(c.want))
		if e != api.OK || told(l) != told(c.l) {
			t.Errorf("P10.5: Decode of %s: %.90s, %d", c.name, told(l), e)
		}
	}
}

// Fields that a token's kind hasn't aren't laid.
func TestEncodeItsKindAlone(t *testing.T) {
	o := api.Hash([]byte(other))
	all := api.Token{Hash: o, Key: []byte("k"), Value: []byte("v"), Height: 5, Size: 6}
	for kind, want := range map[api.TokenKind]string{1: tokenOf("\x01", other), 2: tokenOf("\x02", "", "k", "v"), 3: tokenOf("\x03", "", "", "", "\x05", "\x06")} {
		x := all
		x.Kind = kind
		if b, e := Encode([]api.Token{x}); e != api.OK || string(b) != want {
			t.Errorf("P10.5: Encode of kind %d with all fields: %x, %d, not %x", kind, b, e, want)
		}
	}
	for _, height := range []int{0, -1, 65, math.MaxInt} {
		if b, e := Encode([]api.Token{{Kind: 2, Key: []byte("k"), Height: height}}); e != api.OK || string(b) != tokenOf("\x02", "", "k") {
			t.Errorf("P10.5: Encode of a leaf of Height %d: %x, %d", height, b, e)
		}
	}
	if b, e := Encode([]api.Token{{Kind: 1, Hash: o, Key: make([]byte, 65536), Value: make([]byte, 65536)}}); e != api.OK || string(b) != tokenOf("\x01", other) {
		t.Errorf("P10.5: Encode of a hidden one with a long key: %x, %d", b, e)
	}
}

func TestEncodeHowMany(t *testing.T) {
	one, piece := api.Token{Kind: 2, Key: []byte("k")}, tokenOf("\x02", "", "k")
	for _, n := range []int{0, 1, 2, 2047, 2048} {
		l := slices.Repeat([]api.Token{one}, n)
		b, e := Encode(l)
		if e != api.OK || string(b) != strings.Repeat(piece, n) {
			t.Errorf("P10.5: Encode of %d tokens: %d", n, e)
		}
		m, e := Decode(b)
		if e != api.OK || told(m) != told(l) {
			t.Errorf("P10.5: Decode of %d tokens: %d", n, e)
		}
	}
	for _, n := range []int{2049, 2050, 5000} {
		if b, e := Encode(slices.Repeat([]api.Token{one}, n)); e != api.ErrLong || len(b) != 0 {
			t.Errorf("P10.5: Encode of %d tokens: %d", n, e)
		}
		if m, e := Decode([]byte(strings.Repeat(piece, n))); e != api.ErrLong || len(m) != 0 {
			t.Errorf("P10.5: Decode of %d tokens: %d", n, e)
		}
		if b, e := Encode(make([]api.Token, n)); e != api.ErrLong || len(b) != 0 {
			t.Errorf("P10.5, R2: Encode of %d tokens of no kind: %d", n, e)
		}
	}
}

// exactly: tokens of so many bytes in all: leaves of long values, the last one of what is left.
func exactly(size int) []api.Token {
	var l []api.Token
	for size > 20000 {
		l = append(l, api.Token{Kind: 2, Key: []byte("k"), Value: make([]byte, 9987)}) // 10000 with what is around it
		size -= 10000
	}
	return append(l, api.Token{Kind: 2, Key: []byte("l"), Value: bytes.Repeat([]byte("v"), size-13)})
}

func TestEncodeHowManyBytes(t *testing.T) {
	for _, size := range []int{65535, 65536} {
		l := exactly(size)
		b, e := Encode(l)
		want, _ := refEncode(l)
		if e != api.OK || string(b) != want || len(b) != size {
			t.Errorf("P10.5: Encode to %d bytes: %d, %d", size, len(b), e)
		}
		m, e := Decode(b)
		if e != api.OK || told(m) != told(l) {
			t.Errorf("P10.5: Decode of %d bytes: %d", size, e)
		}
	}
	for _, size := range []int{65537, 65538, 70000, 131073, 200000} {
		if b, e := Encode(exactly(size)); e != api.ErrLong || len(b) != 0 {
			t.Errorf("P10.5: Encode to %d bytes: %d, %d", size, len(b), e)
		}
		b := ""
		for _, x := range exactly(size) {
			one, _ := refEncode([]api.Token{x})
			b += one
		}
		if len(b) != size {
			t.Fatalf("the test's own bytes are %d, not %d", len(b), size)
		}
		if m, e := Decode([]byte(b)); e != api.ErrLong || len(m) != 0 {
			t.Errorf("P10.5: Decode of %d bytes: %d", size, e)
		}
	}
	// A single token of as many bytes: 65534 and what says how many.
	for value, want := range map[int]api.Errno{65523: api.OK, 65524: api.ErrLong, 65525: api.ErrLong, 65535: api.ErrLong, 65536: api.ErrLong, 131072: api.ErrLong} {
		if b, e := Encode([]api.Token{{Kind: 2, Key: []byte("k"), Value: make([]byte, value)}}); e != want || (len(b) == 65536) != (want == api.OK) {
			t.Errorf("P10.5: Encode of a value of %d bytes: %d bytes, %d, not %d", value, len(b), e, want)
		}
	}
}

func TestEncodeErrors(t *testing.T) {
	long, k := make([]byte, 65536), []byte("k")
	bad, high := api.Token{Kind: 7}, api.Token{Kind: 3, Height: 65}
	noSide := api.Token{Kind: 2, Key: long}
	for _, c := range []struct {
		name string
		l    []api.Token
		want api.Errno
	}{
		{"no kind", []api.Token{{Key: k}}, api.ErrKind}, {"kind 4", []api.Token{{Kind: 4}}, api.ErrKind}, {"kind 255", []api.Token{{Kind: 255}}, api.ErrKind},
		{"the second kind", []api.Token{{Kind: 2, Key: k}, bad}, api.ErrKind},
		{"a long key", []api.Token{noSide}, api.ErrLong}, {"a long value", []api.Token{{Kind: 2, Value: long}}, api.ErrLong},
		{"a kind ahead of a long key", []api.Token{bad, noSide}, api.ErrKind}, {"a long key ahead of a kind", []api.Token{noSide, bad}, api.ErrLong},
		{"a Height ahead of a long key", []api.Token{high, noSide}, api.ErrNode}, {"a long key ahead of a Height", []api.Token{noSide, high}, api.ErrLong},
		{"a kind ahead of a Height", []api.Token{bad, high}, api.ErrKind}, {"a Height ahead of a kind", []api.Token{high, bad}, api.ErrNode},
		{"a kind ahead of too many bytes", append(exactly(70000), bad), api.ErrKind}, {"a Height ahead of too many bytes", append(exactly(70000), high), api.ErrNode},
		{"a kind ahead of a piece that is too long", []api.Token{{Kind: 2, Key: long[:40000], Value: long[:40000]}, bad}, api.ErrKind},
		{"too many ahead of a kind", slices.Repeat([]api.Token{bad}, 2049), api.ErrLong},
	} {
		if b, e := Encode(c.l); e != c.want || len(b) != 0 {
			t.Errorf("P10.5, R2: Encode of %s: %d bytes, %d, not %d", c.name, len(b), e, c.want)
		}
		if _, e := refEncode(c.l); e != c.want {
			t.Errorf("the reference says %d of %s", e, c.name)
		}
	}
	for _, h := range wrongHeights {
		if b, e := Encode([]api.Token{{Kind: 3, Height: h, Size: 2}}); e != api.ErrNode || len(b) != 0 {
			t.Errorf("P10.5: Encode of a Height of %d: %d", h, e)
		}
	}
	for h := 1; h <= 64; h++ {
		if b, e := Encode([]api.Token{{Kind: 3, Height: h, Size: 2}}); e != api.OK || string(b) != tokenOf("\x03", "", "", "", string([]byte{byte(h)}), "\x02") {
			t.Errorf("P10.5: Encode of a Height of %d: %x, %d", h, b, e)
		}
	}
}

type decodeCase struct {
	name, b string
	want    api.Errno
}

func wrongBytes() []decodeCase {
	h := tokenOf("\x01", other)
	nine := "\x01" + strings.Repeat("\x00", 8)
	return []decodeCase{
		{"a byte alone", "\x00", api.ErrShort}, {"a piece that lacks", "\x00\x01", api.ErrShort}, {"one byte less", h[:len(h)-1], api.ErrShort}, {"a byte behind", h + "\x00", api.ErrShort},
		{"Unpack ahead of Parse", piece("x") + "\x00", api.ErrShort}, {"Unpack ahead of a kind", piece("") + "\x00\x01", api.ErrShort},
		{"a tag alone", piece("\x01"), api.ErrShort}, {"an empty field", piece("\x01\x00\x00"), api.ErrEmpty}, {"a field that lacks", piece("\x01\x00\x02\x01"), api.ErrShort},
		{"fields in another order", piece(field(2, other) + field(1, "\x01")), api.ErrOrder}, {"a field twice", piece(field(1, "\x01") + field(1, "\x01")), api.ErrOrder}, {"a leaf's fields in another order", piece(field(1, "\x02") + field(4, "v") + field(3, "k")), api.ErrOrder},
		{"tag 0", piece(field(0, "x") + field(1, "\x01") + field(2, other)), api.ErrField}, {"tag 7", piece(field(1, "\x01") + field(2, other) + field(7, "x")), api.ErrField}, {"tag 255", piece(field(255, "x")), api.ErrField},
		{"a kind of 0 ahead", piece(field(1, "\x00\x01") + field(2, other)), api.ErrForm}, {"a kind of a nought", piece(field(1, "\x00") + field(2, other)), api.ErrForm}, {"a kind of nine bytes", piece(field(1, nine) + field(2, other)), api.ErrForm},
		{"a hash of 31 bytes", tokenOf("\x01", other[1:]), api.ErrForm}, {"a hash of 33 bytes", tokenOf("\x01", other+"o"), api.ErrForm}, {"a hash of 1 byte", tokenOf("\x01", "o"), api.ErrForm}, {"a hash of 64 bytes", tokenOf("\x01", other+other), api.ErrForm}, {"a leaf's hash of 31 bytes", tokenOf("\x02", other[1:], "k"), api.ErrForm},
		{"a Height of a nought ahead", tokenOf("\x03", "", "", "", "\x00\x01", "\x02"), api.ErrForm}, {"a Height of a nought", tokenOf("\x03", "", "", "", "\x00"), api.ErrForm}, {"a Height of nine bytes", tokenOf("\x03", "", "", "", nine), api.ErrForm},
		{"a Size of a nought ahead", tokenOf("\x03", "", "", "", "\x01", "\x00\x02"), api.ErrForm}, {"a Size of a nought", tokenOf("\x03", "", "", "", "\x01", "\x00"), api.ErrForm}, {"a Size of nine bytes", tokenOf("\x03", "", "", "", "\x01", nine), api.ErrForm},
		{"a leaf's Size of a nought", tokenOf("\x02", "", "k", "", "", "\x00"), api.ErrForm},
		{"no field", piece(""), api.ErrKind}, {"no kind", piece(field(2, other)), api.ErrKind}, {"kind 4", tokenOf("\x04"), api.ErrKind}, {"kind 255", tokenOf("\xff"), api.ErrKind}, {"kind 256", tokenOf("\x01\x00", other), api.ErrKind},
		{"kind 257", tokenOf("\x01\x01", other), api.ErrKind}, {"kind 258", tokenOf("\x01\x02", "", "k"), api.ErrKind}, {"kind 259", tokenOf("\x01\x03", "", "", "", "\x01"), api.ErrKind}, {"kind 2^16 and one", tokenOf("\x01\x00\x01", other), api.ErrKind}, {"kind 2^32 and one", tokenOf("\x01\x00\x00\x00\x01", other), api.ErrKind},
		{"the greatest kind", tokenOf(strings.Repeat("\xff", 8)), api.ErrKind}, {"kind 2^63 and one", tokenOf("\x80\x00\x00\x00\x00\x00\x00\x01", other), api.ErrKind},
		{"no Height", tokenOf("\x03", "", "", "", "", "\x02"), api.ErrNode}, {"a Height of 65", tokenOf("\x03", "", "", "", "\x41"), api.ErrNode}, {"a Height of 255", tokenOf("\x03", "", "", "", "\xff"), api.ErrNode}, {"a Height of 257", tokenOf("\x03", "", "", "", "\x01\x01"), api.ErrNode},
		{"a Height of 2^20", tokenOf("\x03", "", "", "", "\x10\x00\x00"), api.ErrNode}, {"a Height of 2^20 and one", tokenOf("\x03", "", "", "", "\x10\x00\x01"), api.ErrNode}, {"a Height of 2^32 and one", tokenOf("\x03", "", "", "", "\x01\x00\x00\x00\x01"), api.ErrNode},
		{"a Height of 2^63 and one", tokenOf("\x03", "", "", "", "\x80\x00\x00\x00\x00\x00\x00\x01"), api.ErrNode}, {"the greatest Height", tokenOf("\x03", "", "", "", strings.Repeat("\xff", 8)), api.ErrNode},
		{"a hidden one without a hash", tokenOf("\x01"), api.ErrField}, {"a hidden one with a key", tokenOf("\x01", other, "k"), api.ErrField}, {"a hidden one with a value", tokenOf("\x01", other, "", "v"), api.ErrField}, {"a hidden one with a Height", tokenOf("\x01", other, "", "", "\x01"), api.ErrField}, {"a hidden one with a Size", tokenOf("\x01", other, "", "", "", "\x01"), api.ErrField}, {"a hidden one with a great Height", tokenOf("\x01", other, "", "", "\xff\xff"), api.ErrField},
		{"a leaf with a hash", tokenOf("\x02", other, "k"), api.ErrField}, {"a leaf with a hash of noughts", tokenOf("\x02", noughts, "k"), api.ErrField}, {"a leaf with a Height", tokenOf("\x02", "", "k", "", "\x01"), api.ErrField}, {"a leaf with a Size", tokenOf("\x02", "", "k", "", "", "\x01"), api.ErrField},
		{"an inner one with a hash", tokenOf("\x03", other, "", "", "\x01"), api.ErrField}, {"an inner one with a key", tokenOf("\x03", "", "k", "", "\x01"), api.ErrField}, {"an inner one with a value", tokenOf("\x03", "", "", "v", "\x01"), api.ErrField},
	}
}

func TestDecodeErrors(t *testing.T) {
	h := tokenOf("\x01", other)
	for _, c := range wrongBytes() {
		for _, b := range []string{c.b, h + c.b} {
			if l, e := Decode([]byte(b)); e != c.want || len(l) != 0 {
				t.Errorf("P10.5: Decode of %s: %s, %d, not %d", c.name, told(l), e, c.want)
			}
			if _, e := refDecode(b); e != c.want {
				t.Errorf("the reference says %d of %s", e, c.name)
			}
		}
	}
}

// Of many errors the first that is named, token by token and field by field.
func TestDecodeOrderOfErrors(t *testing.T) {
	bare := piece(field(1, "\x01"))
	for _, c := range []decodeCase{
		{"too many bytes ahead of Unpack", strings.Repeat("\xff", 65537), api.ErrLong}, {"as many bytes as may be", strings.Repeat("\xff", 65536), api.ErrShort},
		{"the first token's Parse", piece("\x01") + tokenOf("\x00"), api.ErrShort}, {"the first token's field", piece(field(1, "\x00")) + piece("\x01"), api.ErrForm}, {"Parse ahead of a field of its token", piece(field(1, "\x00") + "\x02"), api.ErrShort},
		{"Form ahead of Field", piece(field(1, "\x00") + field(9, "x")), api.ErrForm}, {"Field ahead of Form", piece(field(0, "x") + field(1, "\x00")), api.ErrField}, {"a hash ahead of a Size", piece(field(1, "\x01") + field(2, "x") + field(6, "\x00") + field(8, "x")), api.ErrForm},
		{"a later token's field ahead of a kind", tokenOf("\x09") + piece(field(8, "x")), api.ErrField}, {"a later token's form ahead of a Height", tokenOf("\x03") + piece(field(6, "\x00")), api.ErrForm},
		{"a later token's Parse ahead of a kind", tokenOf("\x09") + piece("\x01"), api.ErrShort}, {"a kind ahead of a Height", tokenOf("\x09") + tokenOf("\x03"), api.ErrKind}, {"a Height ahead of a kind", tokenOf("\x03") + tokenOf("\x09"), api.ErrNode},
		{"a later token's kind ahead of a field of another kind", tokenOf("\x01", other, "k") + tokenOf("\x09"), api.ErrKind}, {"a later token's Height ahead of a field that lacks", bare + tokenOf("\x03"), api.ErrNode},
		{"too many tokens ahead of their kind", strings.Repeat(piece(""), 2049), api.ErrLong}, {"as many tokens as may be, of no kind", strings.Repeat(piece(""), 2048), api.ErrKind},
		{"a token's form ahead of too many", strings.Repeat(piece(""), 2049) + piece(field(1, "\x00")), api.ErrForm}, {"Unpack ahead of too many", strings.Repeat(piece(""), 2049) + "\x00", api.ErrShort},
		{"tokens that would be laid as more bytes than may be", strings.Repeat(bare, 1599), api.ErrLong}, {"those that would be laid as fewer", strings.Repeat(bare, 1598), api.ErrField},
	} {
		if l, e := Decode([]byte(c.b)); e != c.want || len(l) != 0 {
			t.Errorf("P10.5, R2: Decode of %s: %s, %d, not %d", c.name, told(l), e, c.want)
		}
		if _, e := refDecode(c.b); e != c.want {
			t.Errorf("the reference says %d of %s", e, c.name)
		}
	}
}

// treeBytes: a tree's root, and bytes of what is made of it.
func treeBytes(t testing.TB) (root api.Hash, texts [][]byte) {
	x := grown(t, "gcaebdfhijk")
	for _, keys := range [][]string{{}, {"a"}, {"b", "f!"}, {"d", "i", "k"}, {"A", "z"}} {
		b, e := Encode(makeOf(x, keys...))
		if e != api.OK {
			t.Fatalf("P10.5: Encode of Make of %q: %d", keys, e)
		}
		texts = append(texts, b)
	}
	return x.Root(), texts
}

// Of the bytes of what is right any bit turned, any byte less or more is refused by Decode, or else by Check; bytes that are read at all are what they would be laid as.
func TestBentBytes(t *testing.T) {
	root, texts := treeBytes(t)
	for i, b := range texts {
		bentBytes(b, func(what string, c []byte) {
			if bytes.Equal(b, c) {
				return
			}
			l, e := Decode(c)
			again, f := Encode(l)
			_, err := Check(root, l)
			if e == api.OK && (f != api.OK || !bytes.Equal(again, c) || err == nil) || e != api.OK && len(l) != 0 {
				t.Errorf("P10.4, P10.5: of text %d %s: %s, %d, %d, %v", i, what, told(l), e, f, err)
			}
			if m, want := refDecode(string(c)); e != want || told(l) != told(m) {
				t.Errorf("P10.5: of text %d %s: %d, not %d", i, what, e, want)
			}
		})
	}
}

// bentBytes: each time with one bit turned, one byte less, one byte more, or cut off.
func bentBytes(b []byte, see func(what string, c []byte)) {
	for i := range 8 * len(b) {
		c := bytes.Clone(b)
		c[i/8] ^= 1 << (i % 8)
		see(fmt.Sprintf("bit %d turned", i), c)
	}
	for i := range b {
		see(fmt.Sprintf("byte %d less", i), slices.Delete(bytes.Clone(b), i, i+1))
		see(fmt.Sprintf("a byte 0 more, at %d", i), slices.Insert(bytes.Clone(b), i, 0))
		see(fmt.Sprintf("cut off at %d", i), bytes.Clone(b[:i]))
	}
	see("a byte more", append(bytes.Clone(b), 0))
	see("a field more", append(bytes.Clone(b), field(9, "x")...))
	see("a piece more", append(bytes.Clone(b), piece("")...))
	see("a token ahead", append([]byte(tokenOf("\x01", other)), b...))
	see("twice", append(bytes.Clone(b), b...))
}

// There and back, of trees that grow.
func TestThereAndBack(t *testing.T) {
	x := tree.New()
	var keys []string
	for i, c := range "kqcxgmbtzeohdrfyjanwslvpiu" {
		keys = append(keys, strings.Repeat(string(c), 1+i*95/25))
		x = put(t, x, keys[i], strings.Repeat("v", i*256/25))
		for _, some := range [][]string{{}, keys[i:], keys[i/2 : i], keys, between(keys[:1+i/3])} {
			l := makeOf(x, some...)
			b, e := Encode(l)
			want, _ := refEncode(l)
			m, f := Decode(b)
			_, err := Check(x.Root(), m)
			if e != api.OK || f != api.OK || string(b) != want || told(l) != told(m) || err != nil {
				t.Fatalf("P10.5: of %d keys Make of %q: %d, %d, %v", len(keys), some, e, f, err)
			}
		}
	}
}
