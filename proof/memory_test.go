package proof

import (
	"bytes"
	"fmt"
	"testing"

	"ferryman/api"
	"ferryman/tree"
)

// spoil: all bytes, and the spare room behind them, become others.
func spoil(b []byte) {
	b = b[:cap(b)]
	for i := range b {
		b[i] ^= 0xff
	}
}

func spoilProof(p *api.Proof) {
	if p == nil {
		return
	}
	spoil(p.Key)
	spoil(p.Value)
	turns := p.Turns[:cap(p.Turns)]
	for i := range turns {
		turns[i] = api.Turn{Height: -turns[i].Height - 7, Size: ^turns[i].Size, Right: !turns[i].Right, Other: sumOf(turns[i].Other[0])}
	}
}

// roomy: a proof whose lists all have spare room, not of noughts.
func roomy(p api.Proof) *api.Proof {
	spare := []byte("spare room")
	return &api.Proof{
		Key:   append(append([]byte{}, p.Key...), spare...)[:len(p.Key)],
		Value: append(append([]byte{}, p.Value...), spare...)[:len(p.Value)],
		Turns: append(append([]api.Turn{}, p.Turns...), api.Turn{Height: 9, Size: 9}, api.Turn{Right: true})[:len(p.Turns)],
	}
}

// whole: all of a proof, spare room too.
func whole(p *api.Proof) string {
	return fmt.Sprintf("%q %q %v", p.Key[:cap(p.Key)], p.Value[:cap(p.Value)], p.Turns[:cap(p.Turns)])
}

func treeTold(x *tree.Tree) string { return fmt.Sprintf("%x %v", x.Root(), x.Nodes()) }

func TestMadeIsNewMemory(t *testing.T) {
	x := grown(t, "gcaebdfhijk")
	before := treeTold(x)
	for _, key := range []string{"a", "g", "k"} {
		p, _ := Make(x, []byte(key))
		q, _ := Make(x, []byte(key))
		want := told(q)
		spoilProof(&p)
		again, _ := Make(x, []byte(key))
		if told(q) != want || told(again) != want || treeTold(x) != before {
			t.Errorf("R6: the proof of %s shares memory", key)
		}
	}
	for _, key := range []string{"A", "aa", "cc", "gg", "z"} {
		g, _ := None(x, []byte(key))
		want := toldGap(g)
		left, right := toldSide(g.Left), toldSide(g.Right)
		spoilProof(g.Left)
		if toldSide(g.Right) != right {
			t.Errorf("R6: the sides of the gap of %s share memory", key)
		}
		g, _ = None(x, []byte(key))
		spoilProof(g.Right)
		if toldSide(g.Left) != left {
			t.Errorf("R6: the sides of the gap of %s share memory", key)
		}
		again, _ := None(x, []byte(key))
		if toldGap(again) != want || treeTold(x) != before {
			t.Errorf("R6: the gap of %s shares memory with the tree", key)
		}
	}
}

// No key that's asked for is kept in an answer, nor changed.
func TestAskedKeysAreNotKept(t *testing.T) {
	x := grown(t, "bdfh")
	for _, c := range []string{"a", "b", "c", "d", "h", "i"} {
		room := []byte(c + "spare room")
		key := room[:1]
		p, _ := Make(x, key)
		g, _ := None(x, key)
		err := VerifyGap(x.Root(), key, g)
		if string(room) != c+"spare room" {
			t.Errorf("R6: the key %s changed", c)
		}
		wantP, wantG := told(p), toldGap(g)
		spoil(room)
		if told(p) != wantP || toldGap(g) != wantG {
			t.Errorf("R6: the key %s is kept", c)
		}
		if again := VerifyGap(x.Root(), []byte(c), g); (again == nil) != (err == nil) {
			t.Errorf("R8: the gap of %s, asked twice", c)
		}
	}
}

func TestHandedInStays(t *testing.T) {
	x := grown(t, "gcaebdfhijk")
	for _, key := range []string{"b!", "d!", "j!"} {
		g, _ := None(x, []byte(key))
		for _, p := range []api.Proof{*g.Left, *g.Right, {}, {Key: []byte("k"), Turns: make([]api.Turn, 70)}} {
			l, r := roomy(p), roomy(*g.Right)
			wantL, wantR := whole(l), whole(r)
			Verify(x.Root(), *l)
			VerifyGap(x.Root(), []byte(key), api.Gap{Left: l, Right: r})
			VerifyGap(x.Root(), []byte(key), api.Gap{Left: l})
			b, _ := Encode(*l)
			c, _ := EncodeGap(api.Gap{Left: l, Right: r})
			if whole(l) != wantL || whole(r) != wantR {
				t.Errorf("R6: of %s a proof that was handed in changed", key)
			}
			wantB, wantC := string(b), string(c)
			spoil(b)
			spoil(c)
			if whole(l) != wantL || whole(r) != wantR {
				t.Errorf("R6: of %s bytes share memory with their proof", key)
			}
			b, _ = Encode(*l)
			c, _ = EncodeGap(api.Gap{Left: l, Right: r})
			spoilProof(l)
			spoilProof(r)
			if string(b) != wantB || string(c) != wantC {
				t.Errorf("R6: of %s bytes share memory with their proof", key)
			}
		}
	}
}

func TestReadIsNewMemory(t *testing.T) {
	_, proofs, gaps := treeBytes(t)
	for key, b := range proofs {
		room := append(bytes.Clone(b), "spare room"...)
		p, _ := Decode(room[:len(b)])
		want := told(p)
		if string(room) != string(b)+"spare room" {
			t.Errorf("R6: the bytes of the proof of %s changed", key)
		}
		q, _ := Decode(room[:len(b)])
		spoilProof(&q)
		if string(room) != string(b)+"spare room" || told(p) != want {
			t.Errorf("R6: the proof of %s shares memory with its bytes", key)
		}
		spoil(room)
		if told(p) != want {
			t.Errorf("R6: the bytes of the proof of %s are kept", key)
		}
		spoil(p.Key)
		spoil(p.Value)
		if q, _ := Decode(b); told(q) != want {
			t.Errorf("R8: the proof of %s, read twice", key)
		}
	}
	for key, b := range gaps {
		room := append(bytes.Clone(b), "spare room"...)
		g, _ := DecodeGap(room[:len(b)])
		want, right := toldGap(g), toldSide(g.Right)
		if string(room) != string(b)+"spare room" {
			t.Errorf("R6: the bytes of the gap of %s changed", key)
		}
		spoil(room)
		if toldGap(g) != want {
			t.Errorf("R6: the bytes of the gap of %s are kept", key)
		}
		spoilProof(g.Left)
		if toldSide(g.Right) != right {
			t.Errorf("R6: the sides of the gap of %s share memory", key)
		}
	}
}

// A key and a value of one read proof don't share memory: each is spoilt, spare room too.
func TestPartsShareNothing(t *testing.T) {
	b := []byte(field(1, "key") + field(2, "value") + field(3, turnOf("\x01", "\x02", "", other)))
	p, e := Decode(b)
	want := told(p)
	if e != api.OK {
		t.Fatalf("P9.5: Decode: %d", e)
	}
	spoil(p.Key)
	if q, _ := Decode(b); string(p.Value) != "value" || told(q) != want || told(api.Proof{Key: []byte("key"), Value: p.Value, Turns: p.Turns}) != want {
		t.Error("R6: the key shares memory with the value, or the turns")
	}
	spoil(p.Value)
	if told(api.Proof{Key: []byte("key"), Value: []byte("value"), Turns: p.Turns}) != want {
		t.Error("R6: the value shares memory with the turns")
	}
}
