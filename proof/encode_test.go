package proof

import (
	"bytes"
	"fmt"
	"math"
	"slices"
	"strings"
	"testing"

	"ferryman/api"
	"ferryman/tree"
)

// turnOf: a turn's bytes by hand: fields as texts, of tags 1 to 4, each left out if empty.
func turnOf(values ...string) string {
	b := ""
	for i, v := range values {
		b += some(uint8(i+1), v)
	}
	return piece(b)
}

type proofCase struct {
	name string
	p    api.Proof
	want string
}

var other = strings.Repeat("o", 32)

func proofCases() []proofCase {
	o := api.Hash([]byte(other))
	noughts := strings.Repeat("\x00", 32)
	return []proofCase{
		{"nothing", api.Proof{}, ""},
		{"a key", api.Proof{Key: []byte("ab")}, "\x01\x00\x02ab"},
		{"a value", api.Proof{Value: []byte("cd")}, "\x02\x00\x02cd"},
		{"a leaf", api.Proof{Key: []byte("ab"), Value: []byte("c")}, "\x01\x00\x02ab\x02\x00\x01c"},
		{"a leaf without a value", api.Proof{Key: []byte("ab"), Value: []byte{}, Turns: []api.Turn{}}, "\x01\x00\x02ab"},
		{"a turn to the left", api.Proof{Key: []byte("a"), Turns: []api.Turn{{Height: 1, Size: 2, Other: o}}},
			"\x01\x00\x01a" + "\x03\x00\x2d" + "\x00\x2b" + "\x01\x00\x01\x01" + "\x02\x00\x01\x02" + "\x04\x00\x20" + other},
		{"a turn to the right", api.Proof{Key: []byte("a"), Turns: []api.Turn{{Height: 1, Size: 2, Right: true, Other: o}}},
			"\x01\x00\x01a" + "\x03\x00\x31" + "\x00\x2f" + "\x01\x00\x01\x01" + "\x02\x00\x01\x02" + "\x03\x00\x01\x01" + "\x04\x00\x20" + other},
		{"a turn alone", api.Proof{Turns: []api.Turn{{Height: 64, Size: 258, Right: true, Other: o}}}, field(3, turnOf("\x40", "\x01\x02", "\x01", other))},
		{"a turn of Size 0, of a sum of noughts", api.Proof{Turns: []api.Turn{{Height: 1}}}, field(3, turnOf("\x01", "", "", noughts))},
		{"a turn of the greatest Size", api.Proof{Turns: []api.Turn{{Height: 63, Size: math.MaxUint64}}}, field(3, turnOf("\x3f", strings.Repeat("\xff", 8), "", noughts))},
		{"Heights that don't fall", api.Proof{Key: []byte("k"), Turns: []api.Turn{{Height: 1, Other: o}, {Height: 64, Right: true}, {Height: 64}}},
			field(1, "k") + field(3, turnOf("\x01", "", "", other)+turnOf("\x40", "", "\x01", noughts)+turnOf("\x40", "", "", noughts))},
		{"a key and a value that are too long for a leaf", api.Proof{Key: make([]byte, 97), Value: make([]byte, 257)}, field(1, strings.Repeat("\x00", 97)) + field(2, strings.Repeat("\x00", 257))},
		{"a key and a value as long as may be", api.Proof{Key: make([]byte, 65535), Value: make([]byte, 65535)}, field(1, strings.Repeat("\x00", 65535)) + field(2, strings.Repeat("\x00", 65535))},
	}
}

func TestEncode(t *testing.T) {
	for _, c := range proofCases() {
		b, e := Encode(c.p)
		if e != api.OK || string(b) != c.want {
			t.Errorf("P9.5: Encode of %s: %.60x, %d, not %.60x", c.name, b, e, c.want)
		}
		p, e := Decode([]byte(c.want))
		if e != api.OK || told(p) != told(c.p) {
			t.Errorf("P9.5: Decode of %s: %.90s, %d", c.name, told(p), e)
		}
	}
}

func TestEncodeHowManyTurns(t *testing.T) {
	for _, turns := range []int{0, 1, 2, 63, 64} {
		p, root := chain(turns)
		b, e := Encode(p)
		want, _ := refEncode(p)
		if e != api.OK || string(b) != want {
			t.Errorf("P9.5: Encode of %d turns: %d", turns, e)
		}
		q, e := Decode(b)
		if e != api.OK || told(q) != told(p) || Verify(root, q) != nil {
			t.Errorf("P9.5: Decode of %d turns: %d", turns, e)
		}
	}
	for _, turns := range []int{65, 66, 1000} {
		p, _ := chain(turns)
		if b, e := Encode(p); e != api.ErrLong || len(b) != 0 {
			t.Errorf("P9.5: Encode of %d turns: %d", turns, e)
		}
		all := strings.Repeat(turnOf("\x01", "", "", other), turns)
		if q, e := Decode([]byte(field(3, all))); e != api.ErrLong || told(q) != told(api.Proof{}) {
			t.Errorf("P9.5: Decode of %d turns: %d", turns, e)
		}
	}
}

func TestEncodeErrors(t *testing.T) {
	long := make([]byte, 65536)
	for _, c := range []struct {
		name string
		p    api.Proof
		want api.Errno
	}{
		{"a Height of 0", api.Proof{Key: []byte("k"), Turns: []api.Turn{{}}}, api.ErrNode},
		{"a Height of 65", api.Proof{Turns: []api.Turn{{Height: 65}}}, api.ErrNode},
		{"a Height of 257", api.Proof{Turns: []api.Turn{{Height: 257}}}, api.ErrNode},
		{"a Height below 0", api.Proof{Turns: []api.Turn{{Height: -1}}}, api.ErrNode},
		{"the least Height", api.Proof{Turns: []api.Turn{{Height: math.MinInt}}}, api.ErrNode},
		{"the greatest Height", api.Proof{Turns: []api.Turn{{Height: math.MaxInt}}}, api.ErrNode},
		{"the second Height", api.Proof{Turns: []api.Turn{{Height: 2}, {Height: 0}}}, api.ErrNode},
		{"the first Height of 64", api.Proof{Turns: append([]api.Turn{{Height: 65}}, slices.Repeat([]api.Turn{{Height: 1}}, 63)...)}, api.ErrNode},
		{"65 turns of a Height of 0", api.Proof{Key: long, Turns: make([]api.Turn, 65)}, api.ErrLong},
		{"a long key", api.Proof{Key: long}, api.ErrLong},
		{"a long value", api.Proof{Key: []byte("k"), Value: long}, api.ErrLong},
		{"a long key, and a Height of 0", api.Proof{Key: long, Turns: make([]api.Turn, 1)}, api.ErrNode},
	} {
		if b, e := Encode(c.p); e != c.want || len(b) != 0 {
			t.Errorf("P9.5: Encode of %s: %d bytes, %d, not %d", c.name, len(b), e, c.want)
		}
		ok := api.Proof{Key: []byte("k")}
		for _, g := range []api.Gap{{Left: &c.p}, {Right: &c.p}, {Left: &c.p, Right: &ok}, {Left: &ok, Right: &c.p}} {
			if b, e := EncodeGap(g); e != c.want || len(b) != 0 {
				t.Errorf("P9.5: EncodeGap of a side with %s: %d bytes, %d, not %d", c.name, len(b), e, c.want)
			}
		}
	}
}

// What is wrong with a turn's bytes, and a right one behind it, whatever stands there.
func wrongTurns() map[string]api.Errno {
	h := field(1, "\x01")
	o := field(4, other)
	return map[string]api.Errno{
		"": api.ErrField, h: api.ErrField, field(2, "\x01"): api.ErrField, h + field(2, "\x01"): api.ErrField, field(3, "\x01"): api.ErrField, h + field(3, "\x01"): api.ErrField,
		field(0, "x") + h + o: api.ErrField, field(0, "x"): api.ErrField, h + o + field(5, "x"): api.ErrField, h + o + field(255, other): api.ErrField, h + field(5, other): api.ErrField,
		field(0, "x") + field(1, "\x00"): api.ErrField, field(1, "\x00") + o: api.ErrForm, field(1, "\x00\x01") + o: api.ErrForm, field(1, "123456789") + o: api.ErrForm,
		h + field(2, "\x00") + o: api.ErrForm, h + field(2, "\x00\x01") + o: api.ErrForm, h + field(2, "123456789") + o: api.ErrForm, field(1, "\x00"): api.ErrForm, field(2, "\x00"): api.ErrForm,
		h + field(3, "\x00") + o: api.ErrForm, h + field(3, "\x02") + o: api.ErrForm, h + field(3, "\x01\x01") + o: api.ErrForm, h + field(3, "\x00\x01") + o: api.ErrForm, h + field(3, "\x81") + o: api.ErrForm, h + field(3, "1"): api.ErrForm,
		h + field(4, other[1:]): api.ErrForm, h + field(4, other+"o"): api.ErrForm, h + field(4, "o"): api.ErrForm, h + field(4, other+other): api.ErrForm, h + field(4, "o") + field(5, "x"): api.ErrForm,
		field(1, "\x00") + field(5, "x"): api.ErrForm, o + h: api.ErrOrder, h + h + o: api.ErrOrder, h + o + o: api.ErrOrder, field(1, "") + o: api.ErrEmpty, h + field(3, "") + o: api.ErrEmpty, h + field(4, ""): api.ErrEmpty,
		"\x01": api.ErrShort, h + "\x04\x00\x20": api.ErrShort, h + o[:34]: api.ErrShort, h + o + "\x05": api.ErrShort, field(1, "\x00") + "\x04\x00": api.ErrShort, field(5, "x") + field(4, "") + "x": api.ErrEmpty,
		o: api.ErrNode, field(1, "\x41") + o: api.ErrNode, field(1, "\x01\x01") + o: api.ErrNode, field(1, "\x10\x00\x00") + o: api.ErrNode, field(1, "\x10\x00\x01") + o: api.ErrNode, field(1, "\x01\x00\x00\x00\x01") + o: api.ErrNode,
		field(1, "\x80\x00\x00\x00\x00\x00\x00\x01") + o: api.ErrNode, field(1, "\xff\xff\xff\xff\xff\xff\xff\xff") + field(2, "\x01") + field(3, "\x01") + o: api.ErrNode,
	}
}

func TestDecodeWrongTurns(t *testing.T) {
	good := turnOf("\x02", "\x09", "\x01", other)
	for turn, want := range wrongTurns() {
		for name, b := range map[string]string{
			"alone":          field(3, piece(turn)),
			"first":          field(1, "k") + field(3, piece(turn)+good),
			"last":           field(1, "k") + field(2, "v") + field(3, good+good+piece(turn)),
			"ahead of tag 4": field(3, piece(turn)) + field(4, "x"),
		} {
			wanted := want
			if name == "ahead of tag 4" && want == api.ErrNode { // Encode's, so at last
				wanted = api.ErrField
			}
			if p, e := Decode([]byte(b)); e != wanted || told(p) != told(api.Proof{}) {
				t.Errorf("P9.5: Decode of the turn %q, %s: %s, %d, not %d", turn, name, told(p), e, wanted)
			}
		}
	}
}

// Turn by turn, Unpack's error ahead of all, tags of the proof's own in their places.
func TestDecodeOrderOfErrors(t *testing.T) {
	good := turnOf("\x02", "\x09", "\x01", other)
	form, order, node := turnOf("\x00", "", "", other), piece(field(2, "x")+field(1, "x")), turnOf("", "", "", other)
	for _, c := range []struct {
		name, b string
		want    api.Errno
	}{
		{"bytes that lack", "\x01", api.ErrShort}, {"bytes of a value that lack", "\x01\x00\x02a", api.ErrShort}, {"a value of none", "\x01\x00\x00", api.ErrEmpty}, {"fields in another order", field(2, "v") + field(1, "k"), api.ErrOrder}, {"a key twice", field(1, "k") + field(1, "k"), api.ErrOrder},
		{"tag 0", field(0, "x"), api.ErrField}, {"tag 4", field(4, "x"), api.ErrField}, {"tag 255", field(1, "k") + field(255, "x"), api.ErrField},
		{"Parse ahead of tag 0", field(0, "x") + "\x01\x00", api.ErrShort}, {"Parse ahead of the turns", field(3, form) + "\x04", api.ErrShort}, {"Parse ahead of tag 4", field(4, "x") + field(5, ""), api.ErrEmpty},
		{"tag 0 ahead of the turns", field(0, "x") + field(3, form), api.ErrField}, {"tag 0 ahead of Unpack", field(0, "x") + field(3, "\x00"), api.ErrField}, {"the turns ahead of tag 4", field(3, form) + field(4, "x"), api.ErrForm}, {"Unpack ahead of tag 4", field(3, good+"\x00") + field(4, "x"), api.ErrShort},
		{"tag 4 ahead of Encode's", field(3, node) + field(4, "x"), api.ErrField}, {"tag 4 ahead of Encode's of many turns", field(3, strings.Repeat(good, 65)) + field(9, "x"), api.ErrField},
		{"Unpack", field(3, "\x00"), api.ErrShort}, {"Unpack of a piece that lacks", field(3, good+good[:len(good)-1]), api.ErrShort}, {"Unpack ahead of the turns", field(3, form+"\x00"), api.ErrShort}, {"Unpack ahead of an order", field(3, order+"\x00\x01"), api.ErrShort},
		{"the first turn's form", field(3, good+form+order), api.ErrForm}, {"the first turn's order", field(3, good+order+form), api.ErrOrder}, {"the first turn's field", field(3, piece("")+form), api.ErrField}, {"a turn's field behind a form", field(3, form+piece("")), api.ErrForm},
		{"a Height behind all turns", field(3, node+form), api.ErrForm}, {"a Height", field(3, good+node+good), api.ErrNode},
		{"many turns ahead of a Height", field(3, node+strings.Repeat(good, 64)), api.ErrLong}, {"a form ahead of many turns", field(3, strings.Repeat(good, 70)+form), api.ErrForm}, {"as many turns as a field holds", field(3, strings.Repeat(turnOf("\x01", "", "", other), 1598)), api.ErrLong}, {"as many turns of nothing as a field holds", field(3, strings.Repeat(piece(""), 32767)), api.ErrField},
	} {
		if p, e := Decode([]byte(c.b)); e != c.want || told(p) != told(api.Proof{}) {
			t.Errorf("P9.5, R2: Decode of %s: %s, %d, not %d", c.name, told(p), e, c.want)
		}
		if want := c.want; len(c.b) <= 65535 {
			for _, g := range []string{field(1, c.b), field(2, c.b), field(1, field(1, "k")) + field(2, c.b), field(1, c.b) + field(2, field(3, order))} {
				if q, e := DecodeGap([]byte(g)); e != want || q != (api.Gap{}) {
					t.Errorf("P9.5, R2: DecodeGap of a side with %s: %s, %d, not %d", c.name, toldGap(q), e, want)
				}
			}
		}
	}
}

func TestGapBytes(t *testing.T) {
	b, d := api.Proof{Key: []byte("b"), Value: []byte("1")}, api.Proof{Key: []byte("d"), Turns: []api.Turn{{Height: 1, Size: 2, Right: true, Other: api.Hash([]byte(other))}}}
	bBytes, dBytes := "\x01\x00\x01b\x02\x00\x011", "\x01\x00\x01d\x03\x00\x31"+turnOf("\x01", "\x02", "\x01", other)
	for _, c := range []struct {
		name string
		g    api.Gap
		want string
	}{
		{"no side", api.Gap{}, ""},
		{"Left", api.Gap{Left: &b}, "\x01\x00\x08" + bBytes},
		{"Right", api.Gap{Right: &d}, "\x02\x00\x38" + dBytes},
		{"both", api.Gap{Left: &b, Right: &d}, "\x01\x00\x08" + bBytes + "\x02\x00\x38" + dBytes},
		{"both, changed for each other", api.Gap{Left: &d, Right: &b}, "\x01\x00\x38" + dBytes + "\x02\x00\x08" + bBytes},
		{"one side twice", api.Gap{Left: &b, Right: &b}, "\x01\x00\x08" + bBytes + "\x02\x00\x08" + bBytes},
	} {
		got, e := EncodeGap(c.g)
		if e != api.OK || string(got) != c.want {
			t.Errorf("P9.5: EncodeGap of %s: %x, %d, not %x", c.name, got, e, c.want)
		}
		g, e := DecodeGap([]byte(c.want))
		if e != api.OK || toldGap(g) != toldGap(c.g) {
			t.Errorf("P9.5: DecodeGap of %s: %s, %d", c.name, toldGap(g), e)
		}
	}
}

// A side of no bytes is no field, so it's not there when it is read.
func TestSideOfNothing(t *testing.T) {
	b, e := EncodeGap(api.Gap{Left: &api.Proof{}, Right: &api.Proof{Key: []byte("k")}})
	if e != api.OK || string(b) != field(2, field(1, "k")) {
		t.Errorf("P9.5: EncodeGap of a side of nothing: %x, %d", b, e)
	}
}

// A side whose bytes are more than a field has.
func TestSideTooLong(t *testing.T) {
	for n, want := range map[int]api.Errno{65531: api.OK, 65532: api.OK, 65533: api.ErrLong, 65535: api.ErrLong} {
		p, ok := api.Proof{Key: make([]byte, n)}, api.Proof{Key: []byte("k")}
		for _, g := range []api.Gap{{Left: &p}, {Right: &p}, {Left: &ok, Right: &p}, {Left: &p, Right: &ok}} {
			b, e := EncodeGap(g)
			if e != want || (len(b) == 0) != (want != api.OK) {
				t.Errorf("P9.5: EncodeGap of a side of a key of %d bytes: %d bytes, %d", n, len(b), e)
			}
		}
	}
}

func TestDecodeGapErrors(t *testing.T) {
	k, bad := field(1, "k"), field(3, "\x00")
	for _, c := range []struct {
		name, b string
		want    api.Errno
	}{
		{"bytes that lack", "\x01\x00", api.ErrShort}, {"a side of no bytes", "\x01\x00\x00", api.ErrEmpty}, {"sides in another order", field(2, k) + field(1, k), api.ErrOrder}, {"a side twice", field(2, k) + field(2, k), api.ErrOrder},
		{"tag 0", field(0, k), api.ErrField}, {"tag 3", field(3, k), api.ErrField}, {"tag 255", field(255, k), api.ErrField}, {"tag 3 behind both", field(1, k) + field(2, k) + field(3, k), api.ErrField},
		{"Parse ahead of tag 0", field(0, k) + "\x01", api.ErrShort}, {"Parse ahead of a side", field(1, bad) + "\x02\x00", api.ErrShort}, {"tag 0 ahead of a side", field(0, k) + field(1, bad), api.ErrField},
		{"a side ahead of tag 3", field(1, bad) + field(3, k), api.ErrShort}, {"the second side ahead of tag 3", field(1, k) + field(2, field(4, "x")+field(1, "x")) + field(3, k), api.ErrOrder}, {"Left first", field(1, field(3, turnOf("", "", "", other))) + field(2, bad), api.ErrNode},
	} {
		if g, e := DecodeGap([]byte(c.b)); e != c.want || g != (api.Gap{}) {
			t.Errorf("P9.5, R2: DecodeGap of %s: %s, %d, not %d", c.name, toldGap(g), e, c.want)
		}
	}
}

// treeBytes: a tree's root, and bytes of proofs and gaps of it.
func treeBytes(t testing.TB) (root api.Hash, proofs, gaps map[string][]byte) {
	x := grown(t, "gcaebdfhijk")
	proofs, gaps = map[string][]byte{}, map[string][]byte{}
	for c := byte('a'); c <= 'm'; c++ {
		if p, ok := Make(x, []byte{c}); ok {
			proofs[string(c)], _ = Encode(p)
		}
		for _, key := range []string{"A", string(c) + "!"} {
			g, _ := None(x, []byte(key))
			gaps[key], _ = EncodeGap(g)
		}
	}
	return x.Root(), proofs, gaps
}

// Of the bytes of what is right any bit turned, any byte less or more is refused, or is a proof of nothing; bytes that are read at all are what they would be laid as.
func TestBentBytes(t *testing.T) {
	root, proofs, gaps := treeBytes(t)
	for key, b := range proofs {
		bentBytes(b, func(what string, c []byte) {
			p, e := Decode(c)
			again, f := Encode(p)
			if e == api.OK && (f != api.OK || !bytes.Equal(again, c) || Verify(root, p) == nil) || e != api.OK && told(p) != told(api.Proof{}) {
				t.Errorf("P9.4, P9.5: of the proof of %s %s: %s, %d, %d", key, what, told(p), e, f)
			}
			if q, want := refDecode(string(c)); e != want || told(p) != told(q) {
				t.Errorf("P9.5: of the proof of %s %s: %d, not %d", key, what, e, want)
			}
		})
	}
	for key, b := range gaps {
		bentBytes(b, func(what string, c []byte) {
			g, e := DecodeGap(c)
			again, f := EncodeGap(g)
			if e == api.OK && (f != api.OK || !bytes.Equal(again, c) || VerifyGap(root, []byte(key), g) == nil) || e != api.OK && g != (api.Gap{}) {
				t.Errorf("P9.4, P9.5: of the gap of %s %s: %s, %d, %d", key, what, toldGap(g), e, f)
			}
			if q, want := refDecodeGap(string(c)); e != want || toldGap(g) != toldGap(q) {
				t.Errorf("P9.5: of the gap of %s %s: %d, not %d", key, what, e, want)
			}
		})
	}
}

// bentBytes: each time with one bit turned, one byte less, one byte more, or cut off.
func bentBytes(b []byte, see func(what string, c []byte)) {
	for i := range 8 * len(b) {
		c := bytes.Clone(b)
		c[i/8] ^= 1 << (i % 8)
		see(fmt.Sprintf("bit %d turned", i), c)
	}
	for i := range b {
		see(fmt.Sprintf("byte %d less", i), slices.Delete(bytes.Clone(b), i, i+1))
		see(fmt.Sprintf("a byte 0 more, at %d", i), slices.Insert(bytes.Clone(b), i, 0))
		see(fmt.Sprintf("cut off at %d", i), bytes.Clone(b[:i]))
	}
	see("a byte more", append(bytes.Clone(b), 0))
	see("a field more", append(bytes.Clone(b), field(9, "x")...))
	see("a field ahead", append([]byte(field(0, "x")), b...))
	see("twice", append(bytes.Clone(b), b...))
}

// There and back, all leaves and gaps of trees.
func TestThereAndBack(t *testing.T) {
	x := tree.New()
	for i, c := range "kqcxgmbtzeohdrfyjanwslvpiu" {
		x = put(t, x, strings.Repeat(string(c), 1+i*95/25), strings.Repeat("v", i*256/25))
		for _, p := range refProofs(x) {
			b, e := Encode(p)
			want, _ := refEncode(p)
			q, f := Decode(b)
			if e != api.OK || f != api.OK || string(b) != want || told(p) != told(q) || Verify(x.Root(), q) != nil {
				t.Fatalf("P9.5: of %q: %d, %d", p.Key, e, f)
			}
			key := append(bytes.Clone(p.Key[:len(p.Key)-1]), p.Key[0]+1)
			g, ok := None(x, key)
			if !ok {
				continue
			}
			b, e = EncodeGap(g)
			want, _ = refEncodeGap(g)
			h, f := DecodeGap(b)
			if e != api.OK || f != api.OK || string(b) != want || toldGap(g) != toldGap(h) || VerifyGap(x.Root(), key, h) != nil {
				t.Fatalf("P9.5: the gap of %q: %d, %d", key, e, f)
			}
		}
	}
}
