package parcel

import (
	"bytes"
	"crypto/sha256"
	"encoding/binary"
	"math"
	"slices"
	"strings"
	"testing"

	"ferryman/api"
)

// field: a field laid by hand, whatever its value.
func field(tag uint8, v string) string {
	return string([]byte{tag, byte(len(v) >> 8), byte(len(v))}) + v
}

// number: a field of a number, by the library's eight bytes.
func number(tag uint8, n uint64) string {
	return field(tag, string(bytes.TrimLeft(binary.BigEndian.AppendUint64(nil, n), "\x00")))
}

// sum: a sum that is unlike others, no byte of it 0.
func sum(n byte) api.Hash {
	var h api.Hash
	for i := range h {
		h[i] = n + byte(i) + 1
	}
	return h
}

func sumField(tag uint8, h api.Hash) string { return field(tag, string(h[:])) }

var noughts = strings.Repeat("\x00", 32)

// A number that Value refuses, in both ways that it does.
var wrongNumbers = []string{"\x00", "\x00\x01", "\x01\x02\x03\x04\x05\x06\x07\x08\x09"}

type packetCase struct {
	name string
	p    api.Packet
	want string
}

func packetCases() []packetCase {
	long := strings.Repeat("x", 65535)
	return []packetCase{
		{"the example", api.Packet{Seq: 1}, "\x02\x00\x01\x01"},
		{"all of it 0", api.Packet{}, ""},
		{"channel 3", api.Packet{Channel: 3}, "\x01\x00\x01\x03"},
		{"a timeout", api.Packet{Timeout: 258}, "\x03\x00\x02\x01\x02"},
		{"a denomination", api.Packet{Denom: "atom"}, "\x04\x00\x04atom"},
		{"an amount", api.Packet{Amount: 256}, "\x05\x00\x02\x01\x00"},
		{"from", api.Packet{From: "ann"}, "\x06\x00\x03ann"},
		{"to", api.Packet{To: "bob"}, "\x07\x00\x03bob"},
		{"all fields", api.Packet{Channel: 2, Seq: 300, Timeout: 7, Denom: "atom", Amount: 5, From: "a", To: "b"},
			"\x01\x00\x01\x02" + "\x02\x00\x02\x01\x2c" + "\x03\x00\x01\x07" + "\x04\x00\x04atom" + "\x05\x00\x01\x05" + "\x06\x00\x01a" + "\x07\x00\x01b"},
		{"the greatest numbers", api.Packet{Channel: 1, Seq: math.MaxUint64, Timeout: math.MaxUint64 - 1, Amount: 1 << 63},
			number(1, 1) + number(2, math.MaxUint64) + number(3, math.MaxUint64-1) + number(5, 1<<63)},
		{"texts that are no letters", api.Packet{Denom: "\x00", From: "\xff\xfe", To: "\x00\x00"},
			field(4, "\x00") + field(6, "\xff\xfe") + field(7, "\x00\x00")},
		{"the longest texts", api.Packet{Denom: long, From: long, To: long}, field(4, long) + field(6, long) + field(7, long)},
		{"an account of a long name", api.Packet{To: long[:300]}, field(7, long[:300])},
	}
}

func TestPacket(t *testing.T) {
	for _, c := range packetCases() {
		if b, e := Packet(c.p); e != api.OK || string(b) != c.want {
			t.Errorf("P4.1: Packet, %s: %d bytes, %d", c.name, len(b), e)
		}
		if p, e := ReadPacket([]byte(c.want)); e != api.OK || p != c.p {
			t.Errorf("P4.2: ReadPacket, %s: %d", c.name, e)
		}
		if h, e := Commitment(c.p); e != api.OK || h != sha256.Sum256([]byte(c.want)) {
			t.Errorf("P4.3: Commitment, %s: %x, %d", c.name, h, e)
		}
	}
}

func TestPacketRefused(t *testing.T) {
	long := strings.Repeat("x", 65536)
	for _, c := range []struct {
		name string
		p    api.Packet
		want api.Errno
	}{
		{"channel 4", api.Packet{Channel: 4}, api.ErrRange},
		{"channel below 0", api.Packet{Channel: -1, Seq: 1}, api.ErrRange},
		{"the least channel", api.Packet{Channel: math.MinInt}, api.ErrRange},
		{"the greatest channel", api.Packet{Channel: math.MaxInt}, api.ErrRange},
		{"a channel whose last byte is 0", api.Packet{Channel: 256}, api.ErrRange},
		{"a long denomination", api.Packet{Denom: long}, api.ErrLong},
		{"a long from", api.Packet{Seq: 1, From: long}, api.ErrLong},
		{"a long to", api.Packet{To: long}, api.ErrLong},
		{"a text twice as long", api.Packet{To: long + long}, api.ErrLong},
		{"all long", api.Packet{Denom: long, From: long, To: long}, api.ErrLong},
		{"range ahead of long", api.Packet{Channel: 4, Denom: long}, api.ErrRange},
		{"below 0 ahead of long", api.Packet{Channel: -1, To: long}, api.ErrRange},
	} {
		if b, e := Packet(c.p); e != c.want || len(b) != 0 {
			t.Errorf("P4.1: Packet, %s: %d bytes, %d", c.name, len(b), e)
		}
		if h, e := Commitment(c.p); e != c.want || h != (api.Hash{}) {
			t.Errorf("P4.3: Commitment, %s: %x, %d", c.name, h, e)
		}
	}
}

type refusal struct {
	name string
	b    string
	want api.Errno
}

// noFields: what Parse refuses, and how, whatever is read.
func noFields() []refusal {
	return []refusal{
		{"a tag alone", "\x01", api.ErrShort},
		{"half a count", "\x01\x00", api.ErrShort},
		{"a byte too few", "\x01\x00\x02\x01", api.ErrShort},
		{"a field, and a tag alone", "\x01\x00\x01\x01\x02", api.ErrShort},
		{"no bytes", "\x02\x00\x00", api.ErrEmpty},
		{"no bytes at tag 0", "\x00\x00\x00", api.ErrEmpty},
		{"a tag twice", "\x01\x00\x01\x01\x01\x00\x01\x01", api.ErrOrder},
		{"a tag that falls", "\x02\x00\x01\x01\x01\x00\x01\x01", api.ErrOrder},
		{"tag 0 behind", "\x01\x00\x01\x01\x00\x00\x01\x01", api.ErrOrder},
		{"a wrong number, then short", "\x01\x00\x01\x00\x02\x00", api.ErrShort},
		{"a great channel, then empty", "\x01\x00\x01\x04\x02\x00\x00", api.ErrEmpty},
		{"a field more, then order", "\x01\x00\x01\x01\x09\x00\x01a\x09\x00\x01a", api.ErrOrder},
		{"tag 0, then short", "\x00\x00\x01\x01\x02", api.ErrShort},
	}
}

func TestReadPacketRefused(t *testing.T) {
	cases := append(noFields(), []refusal{
		{"channel 4", number(1, 4), api.ErrRange},
		{"channel 5", number(1, 5) + number(2, 1), api.ErrRange},
		{"channel 256", number(1, 256), api.ErrRange},
		{"channel 2^32", number(1, 1<<32), api.ErrRange},
		{"channel 2^63", number(1, 1<<63), api.ErrRange},
		{"channel 2^63 and 1", number(1, 1<<63+1), api.ErrRange},
		{"the greatest channel", number(1, math.MaxUint64), api.ErrRange},
		{"channel 4 ahead of a wrong number", number(1, 4) + field(2, "\x00"), api.ErrRange},
		{"channel 4 ahead of the last wrong number", number(1, 4) + number(2, 1) + field(5, "\x00"), api.ErrRange},
		{"channel 4 ahead of a field more", number(1, 4) + field(8, "a"), api.ErrRange},
		{"a field more", field(8, "a"), api.ErrField},
		{"a field more behind all", number(1, 3) + field(7, "b") + field(8, "\x00"), api.ErrField},
		{"a field of tag 255", field(255, "a"), api.ErrField},
		{"two fields more", field(7, "b") + field(9, "a") + field(10, "b"), api.ErrField},
		{"a wrong number ahead of a field more", field(5, "\x00") + field(8, "a"), api.ErrForm},
		{"tag 0 alone", field(0, "a"), api.ErrField},
		{"tag 0 ahead", field(0, "a") + number(2, 1) + field(7, "b"), api.ErrField},
		{"tag 0 ahead of a wrong number", field(0, "\x00") + field(2, "\x00"), api.ErrField},
		{"tag 0 ahead of channel 4", field(0, "a") + number(1, 4), api.ErrField},
		{"tag 0 ahead of a wrong channel", field(0, "a") + field(1, "\x00"), api.ErrField},
	}...)
	for _, tag := range []uint8{1, 2, 3, 5} {
		for _, v := range wrongNumbers {
			cases = append(cases,
				refusal{"a wrong number", field(tag, v), api.ErrForm},
				refusal{"a wrong number ahead of a text", field(tag, v) + field(7, "b"), api.ErrForm})
		}
	}
	for _, c := range cases {
		if p, e := ReadPacket([]byte(c.b)); e != c.want || p != (api.Packet{}) {
			t.Errorf("P4.2: ReadPacket, %s (%x): %v, %d", c.name, c.b, p, e)
		}
	}
}

func TestAck(t *testing.T) {
	for _, c := range []struct {
		name string
		a    api.Ack
		want string
	}{
		{"the example", api.Ack{OK: true}, "\x01\x00\x01\x01"},
		{"the least code", api.Ack{Code: 1}, "\x02\x00\x01\x01"},
		{"an error", api.Ack{Code: api.ErrOver}, "\x02\x00\x01\x29"},
		{"a code of two bytes", api.Ack{Code: 258}, "\x02\x00\x02\x01\x02"},
		{"below 2^31", api.Ack{Code: 1<<31 - 1}, "\x02\x00\x04\x7f\xff\xff\xff"},
		{"2^31", api.Ack{Code: 1 << 31}, "\x02\x00\x04\x80\x00\x00\x00"},
	} {
		if b, e := Ack(c.a); e != api.OK || string(b) != c.want {
			t.Errorf("P4.1: Ack, %s: %x, %d", c.name, b, e)
		}
		if a, e := ReadAck([]byte(c.want)); e != api.OK || a != c.a {
			t.Errorf("P4.2: ReadAck, %s: %v, %d", c.name, a, e)
		}
	}
}

// Ack lays a Code above 2^31, too; ReadAck alone refuses it.
func TestAckAboveWhatIsRead(t *testing.T) {
	for _, code := range []api.Errno{1<<31 + 1, 1 << 32, 1<<32 + 1, math.MaxInt} {
		b, e := Ack(api.Ack{Code: code})
		if e != api.OK || string(b) != number(2, uint64(code)) {
			t.Errorf("P4.1: Ack of %d: %x, %d", int(code), b, e)
		}
		if a, e := ReadAck(b); e != api.ErrRange || a != (api.Ack{}) {
			t.Errorf("P4.2: ReadAck of %d: %v, %d", int(code), a, e)
		}
	}
}

func TestAckRefused(t *testing.T) {
	for _, a := range []api.Ack{
		{}, {Code: -1}, {Code: math.MinInt}, {Code: -1 << 31},
		{OK: true, Code: 1}, {OK: true, Code: api.ErrFunds}, {OK: true, Code: -1}, {OK: true, Code: math.MaxInt},
	} {
		if b, e := Ack(a); e != api.ErrRange || len(b) != 0 {
			t.Errorf("P4.1: Ack of %v, %d: %x, %d", a.OK, int(a.Code), b, e)
		}
	}
}

func TestReadAckRefused(t *testing.T) {
	cases := append(noFields(), []refusal{
		{"nothing", "", api.ErrRange},
		{"field 1 of 2", number(1, 2), api.ErrRange},
		{"field 1 of 2, and a code", number(1, 2) + number(2, 1), api.ErrRange},
		{"field 1 of 256", number(1, 256), api.ErrRange},
		{"field 1 of 257", number(1, 257) + number(2, 1), api.ErrRange},
		{"the greatest field 1", number(1, math.MaxUint64), api.ErrRange},
		{"OK with a code", number(1, 1) + number(2, 1), api.ErrRange},
		{"one above 2^31", number(2, 1<<31+1), api.ErrRange},
		{"2^32", number(2, 1<<32), api.ErrRange},
		{"2^63", number(2, 1<<63), api.ErrRange},
		{"the greatest code", number(2, math.MaxUint64), api.ErrRange},
		{"a wrong code ahead of field 1 of 2", number(1, 2) + field(2, "\x00"), api.ErrForm},
		{"a wrong code behind OK", number(1, 1) + field(2, "\x00\x01"), api.ErrForm},
		{"range ahead of a field more", number(1, 1) + number(2, 1) + field(3, "a"), api.ErrRange},
		{"a field more alone", field(3, "a"), api.ErrRange},
		{"form ahead of a field more", field(2, "\x00") + field(3, "a"), api.ErrForm},
		{"OK, and a field more", number(1, 1) + field(3, "a"), api.ErrField},
		{"a code, and a field more", number(2, 41) + field(255, "a"), api.ErrField},
		{"a code, and two fields more", number(2, 41) + field(3, "\x00") + field(4, "a"), api.ErrField},
		{"tag 0 alone", field(0, "a"), api.ErrRange},
		{"tag 0 ahead of OK", field(0, "a") + number(1, 1), api.ErrRange},
		{"tag 0 ahead of a code", field(0, "a") + number(2, 41), api.ErrRange},
		{"tag 0 ahead of a wrong number", field(0, "a") + field(2, "\x00"), api.ErrRange},
	}...)
	for _, tag := range []uint8{1, 2} {
		for _, v := range wrongNumbers {
			cases = append(cases, refusal{"a wrong number", field(tag, v), api.ErrForm})
		}
	}
	for _, c := range cases {
		if a, e := ReadAck([]byte(c.b)); e != c.want || a != (api.Ack{}) {
			t.Errorf("P4.2: ReadAck, %s (%x): %v, %d", c.name, c.b, a, e)
		}
	}
}

// headerCases: each header, and its bytes.
func headerCases() map[string]api.Header {
	return map[string]api.Header{
		"":           {},
		number(1, 1): {Height: 1},
		number(2, 1): {Time: 1},
		number(1, math.MaxUint64) + number(2, 1<<63): {Height: math.MaxUint64, Time: 1 << 63},
		sumField(3, sum(3)):                          {Root: sum(3)},
		sumField(4, sum(4)):                          {Vals: sum(4)},
		sumField(5, sum(5)):                          {Next: sum(5)},
		sumField(6, sum(6)):                          {Seal: sum(6)},
		sumField(3, api.Hash{31: 1}):                 {Root: api.Hash{31: 1}},
		sumField(6, api.Hash{1}):                     {Seal: api.Hash{1}},
		number(1, 3) + sumField(3, sum(9)):           {Height: 3, Root: sum(9)},
		number(1, 3) + number(2, 258) + sumField(3, sum(3)) + sumField(4, sum(4)) + sumField(5, sum(5)) + sumField(6, sum(6)): {
			Height: 3, Time: 258, Root: sum(3), Vals: sum(4), Next: sum(5), Seal: sum(6)},
	}
}

func TestHeader(t *testing.T) {
	for want, h := range headerCases() {
		if b := Header(h); string(b) != want {
			t.Errorf("P4.1: Header of %v: %x", h, b)
		}
		if got, e := ReadHeader([]byte(want)); e != api.OK || got != h {
			t.Errorf("P4.2: ReadHeader of %x: %v, %d", want, got, e)
		}
	}
}

func TestReadHeaderRefused(t *testing.T) {
	cases := append(noFields(), []refusal{
		{"a field more", field(7, "a"), api.ErrField},
		{"a field more behind all", number(1, 1) + sumField(6, sum(6)) + field(7, "a"), api.ErrField},
		{"a field of tag 255", number(2, 1) + field(255, "a"), api.ErrField},
		{"a wrong number ahead of a field more", field(1, "\x00") + field(7, "a"), api.ErrForm},
		{"noughts ahead of a field more", field(6, noughts) + field(7, "a"), api.ErrForm},
		{"tag 0 alone", field(0, "a"), api.ErrField},
		{"tag 0 ahead", field(0, "a") + number(1, 1), api.ErrField},
		{"tag 0 ahead of noughts", field(0, "a") + field(3, noughts), api.ErrField},
		{"tag 0 ahead of a wrong number", field(0, "a") + field(1, "\x00"), api.ErrField},
		{"a sum wrong behind one that is right", sumField(3, sum(3)) + field(4, "a"), api.ErrForm},
	}...)
	for _, tag := range []uint8{1, 2} {
		for _, v := range wrongNumbers {
			cases = append(cases, refusal{"a wrong number", field(tag, v), api.ErrForm})
		}
	}
	right := sum(1)
	long := string(right[:]) + "x"
	for _, tag := range []uint8{3, 4, 5, 6} {
		for _, v := range []string{"a", noughts, noughts[:31], noughts + "\x00", noughts + "\x01", long[:31], long, long + long} {
			cases = append(cases, refusal{"a wrong sum", number(1, 1) + field(tag, v), api.ErrForm})
		}
	}
	for _, c := range cases {
		if h, e := ReadHeader([]byte(c.b)); e != c.want || h != (api.Header{}) {
			t.Errorf("P4.2: ReadHeader, %s (%x): %v, %d", c.name, c.b, h, e)
		}
	}
}

// A field of a packet is none of an answer, nor of a header: each refuses the others' bytes, or tells something else.
func TestReadEachOther(t *testing.T) {
	packet, _ := Packet(api.Packet{Channel: 1, Seq: 2, Denom: "atom", To: "b"})
	header := Header(api.Header{Height: 1, Time: 2, Root: sum(3)})
	if _, e := ReadAck(packet); e != api.ErrRange {
		t.Errorf("P4.2: ReadAck of a packet: %d", e)
	}
	if _, e := ReadHeader(packet); e != api.ErrForm {
		t.Errorf("P4.2: ReadHeader of a packet: %d", e)
	}
	if _, e := ReadPacket(header); e != api.ErrForm {
		t.Errorf("P4.2: ReadPacket of a header: %d", e)
	}
	if _, e := ReadAck(header); e != api.ErrRange {
		t.Errorf("P4.2: ReadAck of a header: %d", e)
	}
}

func TestSeal(t *testing.T) {
	for text, h := range headerCases() {
		if h.Seal != (api.Hash{}) {
			text = text[:len(text)-len(sumField(6, h.Seal))]
		}
		// Vals stand whole ahead of the header, noughts or not.
		want := api.Hash(sha256.Sum256([]byte("seal" + string(h.Vals[:]) + text)))
		if got := Seal(h); got != want {
			t.Errorf("P4.3: Seal of %v: %x", h, got)
		}
		sealed := h
		sealed.Seal = sum(77)
		if Seal(sealed) != want {
			t.Errorf("P4.3: Seal of %v hangs on its Seal", h)
		}
	}
}

func TestSealHangsOnAllElse(t *testing.T) {
	h := api.Header{Height: 3, Time: 258, Root: sum(3), Vals: sum(4), Next: sum(5)}
	others := []api.Header{h, h, h, h, h, h, h}
	others[1].Height++
	others[2].Time++
	others[3].Root[31]++
	others[4].Vals[0]++
	others[5].Next[31]++
	others[6].Vals, others[6].Next = h.Next, h.Vals
	seen := map[api.Hash]int{}
	for i, x := range others {
		seal := Seal(x)
		if j, ok := seen[seal]; ok {
			t.Errorf("P4.3: headers %d and %d have one seal", j, i)
		}
		seen[seal] = i
	}
}

func TestCommitmentHangsOnAll(t *testing.T) {
	p := api.Packet{Channel: 1, Seq: 2, Timeout: 3, Denom: "d", Amount: 4, From: "f", To: "t"}
	others := []api.Packet{p, p, p, p, p, p, p, p}
	others[1].Channel++
	others[2].Seq++
	others[3].Timeout++
	others[4].Denom = ""
	others[5].Amount++
	others[6].From, others[6].To = p.To, p.From
	others[7].To = "tt"
	seen := map[api.Hash]int{}
	for i, x := range others {
		h, e := Commitment(x)
		if j, ok := seen[h]; ok || e != api.OK {
			t.Errorf("P4.3: packets %d and %d have one commitment, %d", j, i, e)
		}
		seen[h] = i
	}
}

// roomy: the same bytes with spare room behind them that holds 0xEE, and all of it.
func roomy(b []byte) (with, whole []byte) {
	whole = append(slices.Clone(b), bytes.Repeat([]byte{0xEE}, 40)...)
	return whole[:len(b)], whole
}

func scribble(b []byte) {
	for i := range b {
		b[i] ^= 0x55
	}
}

func TestReadLeavesAlone(t *testing.T) {
	p := api.Packet{Channel: 1, Seq: 2, Timeout: 3, Denom: "atom", Amount: 4, From: "ann", To: "bob"}
	a := api.Ack{Code: api.ErrOver}
	h := api.Header{Height: 3, Time: 258, Root: sum(3), Vals: sum(4), Next: sum(5), Seal: sum(6)}
	packet, _ := Packet(p)
	answer, _ := Ack(a)
	for name, c := range map[string]struct {
		b    []byte
		same func(b []byte) func() bool
	}{
		"packet": {packet, func(b []byte) func() bool { x, _ := ReadPacket(b); return func() bool { return x == p } }},
		"answer": {answer, func(b []byte) func() bool { x, _ := ReadAck(b); return func() bool { return x == a } }},
		"header": {Header(h), func(b []byte) func() bool { x, _ := ReadHeader(b); return func() bool { return x == h } }},
	} {
		b, whole := roomy(c.b)
		before := slices.Clone(whole)
		same := c.same(b)
		if !bytes.Equal(whole, before) {
			t.Errorf("R6: reading a %s changed what was handed in", name)
		}
		scribble(whole)
		if !same() {
			t.Errorf("R6: reading a %s keeps what was handed in", name)
		}
	}
}

func TestAnswersAreNewMemory(t *testing.T) {
	p := api.Packet{Seq: 2, Denom: "atom"}
	a := api.Ack{OK: true}
	h := api.Header{Height: 3, Root: sum(3), Seal: sum(6)}
	for name, lay := range map[string]func() []byte{
		"Packet": func() []byte { b, _ := Packet(p); return b },
		"Ack":    func() []byte { b, _ := Ack(a); return b },
		"Header": func() []byte { return Header(h) },
	} {
		first, second := lay(), lay()
		want := string(second)
		scribble(first[:cap(first)])
		if string(second) != want || string(lay()) != want {
			t.Errorf("R6: %s hands out the same memory twice", name)
		}
	}
	if p.Denom != "atom" || h.Root != sum(3) || h.Seal != sum(6) {
		t.Error("R6: the answer shares memory with what was handed in")
	}
}

// told: what is read of fields, by another way than the package's own: Parse done by hand, all fields by their tags, then the chapter's sentence.
type told struct {
	values map[uint8]string
	more   bool
	code   api.Errno
}

func tell(b []byte, last uint8) told {
	x := told{values: map[uint8]string{}}
	ahead, foreign := -1, false
	for len(b) > 0 {
		if len(b) < 3 || len(b)-3 < int(binary.BigEndian.Uint16(b[1:])) {
			return told{code: api.ErrShort}
		}
		n := int(binary.BigEndian.Uint16(b[1:]))
		if n == 0 {
			return told{code: api.ErrEmpty}
		}
		if int(b[0]) <= ahead {
			return told{code: api.ErrOrder}
		}
		ahead = int(b[0])
		foreign = foreign || b[0] == 0
		if foreign || b[0] > last {
			x.more = true
		} else {
			x.values[b[0]] = string(b[3 : 3+n])
		}
		b = b[3+n:]
	}
	return x
}

func wrongNumber(s string) bool { return len(s) > 8 || s != "" && s[0] == 0 }

func wrongSum(s string) bool { return s != "" && (len(s) != 32 || s == noughts) }

func value(s string) uint64 {
	n := uint64(0)
	for i := range len(s) {
		n = n*256 + uint64(s[i])
	}
	return n
}

func (x told) packetCode() api.Errno {
	switch v := x.values; {
	case x.code != api.OK:
		return x.code
	case wrongNumber(v[1]):
		return api.ErrForm
	case value(v[1]) > 3:
		return api.ErrRange
	case wrongNumber(v[2]) || wrongNumber(v[3]) || wrongNumber(v[5]):
		return api.ErrForm
	case x.more:
		return api.ErrField
	}
	return api.OK
}

func (x told) ackCode() api.Errno {
	switch v := x.values; {
	case x.code != api.OK:
		return x.code
	case wrongNumber(v[1]) || wrongNumber(v[2]):
		return api.ErrForm
	case value(v[1]) > 1 || value(v[2]) > 1<<31 || (v[1] != "") != (v[2] == ""):
		return api.ErrRange
	case x.more:
		return api.ErrField
	}
	return api.OK
}

func (x told) headerCode() api.Errno {
	switch v := x.values; {
	case x.code != api.OK:
		return x.code
	case wrongNumber(v[1]) || wrongNumber(v[2]) || wrongSum(v[3]) || wrongSum(v[4]) || wrongSum(v[5]) || wrongSum(v[6]):
		return api.ErrForm
	case x.more:
		return api.ErrField
	}
	return api.OK
}

// What is read is what would be laid: nothing else is taken for a packet, an answer or a header.
func checkReads(t *testing.T, b []byte) {
	p, e := ReadPacket(b)
	if want := tell(b, 7).packetCode(); e != want {
		t.Errorf("P4.2: ReadPacket of %x: %d, not %d", b, e, want)
	}
	if back, f := Packet(p); e == api.OK && (f != api.OK || !bytes.Equal(back, b)) {
		t.Errorf("P4.2: ReadPacket of %x, laid again: %x, %d", b, back, f)
	}
	a, e := ReadAck(b)
	if want := tell(b, 2).ackCode(); e != want {
		t.Errorf("P4.2: ReadAck of %x: %d, not %d", b, e, want)
	}
	if back, f := Ack(a); e == api.OK && (f != api.OK || !bytes.Equal(back, b)) {
		t.Errorf("P4.2: ReadAck of %x, laid again: %x, %d", b, back, f)
	}
	h, e := ReadHeader(b)
	if want := tell(b, 6).headerCode(); e != want {
		t.Errorf("P4.2: ReadHeader of %x: %d, not %d", b, e, want)
	}
	if back := Header(h); e == api.OK && !bytes.Equal(back, b) {
		t.Errorf("P4.2: ReadHeader of %x, laid again: %x", b, back)
	}
}

// All rows of up to three fields, out of these tags and values.
func TestReadsOfRows(t *testing.T) {
	right := sum(1)
	values := []string{"\x00", "\x01", "\x02", "\x04", "\x80\x00\x00\x00", "\x80\x00\x00\x01", "123456789", noughts, string(right[:])}
	var pieces []string
	for tag := range uint8(9) {
		for _, v := range values {
			pieces = append(pieces, field(tag, v))
		}
	}
	checkReads(t, nil)
	for i, x := range pieces {
		checkReads(t, []byte(x))
		for j, y := range pieces {
			checkReads(t, []byte(x+y))
			for k := range len(values) {
				// Of the third fields those whose tag rises, and one that falls: all of them would take long.
				next := (max(i, j)/len(values) + 1 + k%3) * len(values)
				z := pieces[(next+k)%len(pieces)]
				checkReads(t, []byte(x+y+z))
			}
		}
	}
}

func TestReadsCut(t *testing.T) {
	packet, _ := Packet(api.Packet{Channel: 1, Seq: 2, Timeout: 3, Denom: "atom", Amount: 4, From: "ann", To: "bob"})
	answer, _ := Ack(api.Ack{Code: 258})
	header := Header(api.Header{Height: 3, Time: 258, Root: sum(3), Vals: sum(4), Next: sum(5), Seal: sum(6)})
	for _, b := range [][]byte{packet, answer, header} {
		for i := range len(b) + 1 {
			checkReads(t, b[:i])
			checkReads(t, b[i:])
		}
	}
}

func FuzzReads(f *testing.F) {
	f.Add([]byte("\x02\x00\x01\x01"))
	f.Add([]byte("\x01\x00\x01\x01"))
	f.Add([]byte("\x00\x00\x01a\x01\x00\x01\x01"))
	f.Add([]byte(sumField(3, sum(3)) + sumField(6, sum(6))))
	f.Fuzz(checkReads)
}

func FuzzPacket(f *testing.F) {
	f.Add(2, uint64(300), uint64(0), "atom", uint64(5), "a", "b")
	f.Add(-1, uint64(0), uint64(1<<40), "", uint64(0), "", "\x00")
	f.Fuzz(func(t *testing.T, channel int, seq, timeout uint64, denom string, amount uint64, from, to string) {
		p := api.Packet{Channel: channel, Seq: seq, Timeout: timeout, Denom: denom, Amount: amount, From: from, To: to}
		b, e := Packet(p)
		if (e == api.OK) != (channel >= 0 && channel <= 3 && max(len(denom), len(from), len(to)) <= 65535) {
			t.Errorf("P4.1: Packet of %v: %d", p, e)
		}
		if got, f := ReadPacket(b); e == api.OK && (f != api.OK || got != p) {
			t.Errorf("P4.2: %v came back as %v, %d", p, got, f)
		}
	})
}
