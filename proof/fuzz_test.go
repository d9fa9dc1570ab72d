package proof

import (
	"bytes"
	"testing"

	"ferryman/api"
	"ferryman/fault"
	"ferryman/tree"
)

func FuzzDecode(f *testing.F) {
	_, proofs, _ := treeBytes(f)
	for _, b := range proofs {
		f.Add(b)
	}
	for _, c := range proofCases() {
		if len(c.want) < 1000 {
			f.Add([]byte(c.want))
		}
	}
	for turn := range wrongTurns() {
		f.Add([]byte(field(1, "k") + field(3, piece(turn)+turnOf("\x02", "\x09", "\x01", other)) + field(4, "x")))
	}
	f.Fuzz(func(t *testing.T, b []byte) {
		p, e := Decode(b)
		if q, want := refDecode(string(b)); e != want || told(p) != told(q) {
			t.Errorf("P9.5: %s, %d, not %s, %d", told(p), e, told(q), want)
		}
		if again, f := Encode(p); e == api.OK && (f != api.OK || !bytes.Equal(again, b)) {
			t.Errorf("P9.5: laid again: %x, %d", again, f)
		}
	})
}

func FuzzDecodeGap(f *testing.F) {
	_, _, gaps := treeBytes(f)
	for _, b := range gaps {
		f.Add(b)
	}
	f.Add([]byte(field(0, "x") + field(1, field(1, "k"))))
	f.Add([]byte(field(1, field(3, "x")) + field(3, "x")))
	f.Fuzz(func(t *testing.T, b []byte) {
		g, e := DecodeGap(b)
		if q, want := refDecodeGap(string(b)); e != want || toldGap(g) != toldGap(q) {
			t.Errorf("P9.5: %s, %d, not %s, %d", toldGap(g), e, toldGap(q), want)
		}
		if again, f := EncodeGap(g); e == api.OK && (f != api.OK || !bytes.Equal(again, b)) {
			t.Errorf("P9.5: laid again: %x, %d", again, f)
		}
	})
}

// bend: a proof, changed as a row of bytes says, three a change.
func bend(p *api.Proof, how []byte) {
	for ; len(how) >= 3; how = how[3:] {
		at, by := int(how[1]), how[2]
		switch n := len(p.Turns); {
		case how[0]%9 == 0 && len(p.Key) > 0:
			p.Key[at%len(p.Key)] ^= by
		case how[0]%9 == 1:
			p.Key = bytes.Repeat([]byte{by}, at)
		case how[0]%9 == 2:
			p.Value = bytes.Repeat([]byte{by}, 2*at)
		case how[0]%9 == 3:
			for range by % 80 {
				p.Turns = append(p.Turns, api.Turn{Height: at - 2, Right: by%2 == 1})
			}
		case n == 0:
		case how[0]%9 == 4:
			p.Turns[at%n].Height += int(int8(by))
		case how[0]%9 == 5:
			p.Turns[at%n].Size ^= uint64(by)
		case how[0]%9 == 6:
			p.Turns[at%n].Right = !p.Turns[at%n].Right
		case how[0]%9 == 7:
			p.Turns[at%n].Other[by%32] ^= by
		default:
			p.Turns = append(p.Turns[:at%n:at%n], p.Turns[at%n+1:]...)
		}
	}
}

// scripted: a tree of short keys by a row of bytes, one a key.
func scripted(t testing.TB, script []byte) *tree.Tree {
	x := tree.New()
	for _, c := range script[:min(len(script), 40)] {
		key := []byte{'a' + c%8, 'a' + c/8%4}[:1+c>>7]
		if c>>5&3 == 3 {
			x, _ = x.Cut(key)
		} else {
			x = put(t, x, string(key), string(rune('0'+c>>5&3)))
		}
	}
	return x
}

func FuzzVerify(f *testing.F) {
	f.Add([]byte("abcdefgh"), []byte("c"), []byte{}, []byte{}, byte(0))
	f.Add([]byte("a\x81\x82bcd\xe3fgh"), []byte("ca"), []byte("\x04\x01\xff"), []byte("\x08\x00\x00"), byte(1))
	f.Add([]byte("abcdefgh"), []byte("c"), []byte("\x06\x01\x01"), []byte("\x06\x01\x00"), byte(2))
	f.Add([]byte("abdefgh"), []byte("c"), []byte("\x07\x00\x01"), []byte("\x03\x03\x42"), byte(3))
	f.Add([]byte("bdf"), []byte("z"), []byte("\x01\x61\x00"), []byte("\x02\x81\x00"), byte(4))
	f.Fuzz(func(t *testing.T, script, key, left, right []byte, which byte) {
		x := scripted(t, script)
		all := refProofs(x)
		if p, ok := Make(x, key); ok && Verify(x.Root(), p) != nil {
			t.Errorf("P9.2: the proof of %q isn't taken", key)
		}
		g, no := None(x, key)
		if want, so := refGap(all, string(key)); no != so || toldGap(g) != toldGap(want) {
			t.Errorf("P9.1: the gap of %q: %s", key, toldGap(g))
		}
		if which%2 == 1 && len(all) > 0 {
			g = api.Gap{Left: copiedSide(&all[int(which)/2%len(all)]), Right: copiedSide(&all[(int(which)/2+1)%len(all)])}
		}
		for i, p := range []*api.Proof{g.Left, g.Right} {
			if p == nil {
				continue
			}
			bend(p, [][]byte{left, right}[i])
			holdVerify(t, x, *p)
		}
		err := VerifyGap(x.Root(), key, g)
		if want := refVerifyGap(x.Root(), string(key), g); fault.Code(err) != want || (err == nil) != (want == api.OK) {
			t.Errorf("P9.3: %v, not %d", err, want)
		}
		if err == nil && !no {
			t.Errorf("P9.4: the gap of %q, which is there, is taken", key)
		}
	})
}

// holdVerify: Verify, and Encode, of a proof, bent or not, against the reference.
func holdVerify(t *testing.T, x *tree.Tree, p api.Proof) {
	for _, root := range []api.Hash{x.Root(), refRoot(p)} {
		err := Verify(root, p)
		if want := refVerify(root, p); fault.Code(err) != want || (err == nil) != (want == api.OK) {
			t.Errorf("P9.2: %v, not %d", err, want)
		}
	}
	if v, is := x.Get(p.Key); Verify(x.Root(), p) == nil && (!is || !bytes.Equal(v, p.Value)) {
		t.Errorf("P9.4: the proof of %q, which hasn't the value %q, is taken", p.Key, p.Value)
	}
	b, e := Encode(p)
	if want, f := refEncode(p); e != f || string(b) != want {
		t.Errorf("P9.5: Encode: %d, not %d", e, f)
	}
	if q, f := Decode(b); e == api.OK && (f != api.OK || told(q) != told(p)) {
		t.Errorf("P9.5: Decode of Encode: %d", f)
	}
}
