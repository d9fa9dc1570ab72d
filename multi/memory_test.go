package multi

import (
	"bytes"
	"fmt"
	"testing"

	"ferryman/api"
	"ferryman/tree"
)

// spoil: all bytes, and the spare room behind them, become others.
func spoil(b []byte) {
	b = b[:cap(b)]
	for i := range b {
		b[i] ^= 0xff
	}
}

func spoilTokens(l []api.Token) {
	l = l[:cap(l)]
	for i := range l {
		x := &l[i]
		spoil(x.Key)
		spoil(x.Value)
		*x = api.Token{Kind: ^x.Kind, Hash: sumOf(x.Hash[0]), Key: []byte("spoilt"), Height: -x.Height - 7, Size: ^x.Size}
	}
}

// roomy: tokens whose lists all have spare room, not of noughts, as they themselves.
func roomy(l []api.Token) []api.Token {
	m := append(copied(l), leafOf("spare"), hidden(5))[:len(l)]
	for i, x := range l {
		m[i].Key = append(append([]byte{}, x.Key...), "spare room"...)[:len(x.Key)]
		m[i].Value = append(append([]byte{}, x.Value...), "spare room"...)[:len(x.Value)]
	}
	return m
}

// whole: all of tokens, spare room too.
func whole(l []api.Token) string {
	m := copied(l[:cap(l)])
	for i, x := range l[:cap(l)] {
		m[i].Key, m[i].Value = x.Key[:cap(x.Key)], x.Value[:cap(x.Value)]
	}
	return told(m)
}

func treeTold(x *tree.Tree) string { return fmt.Sprintf("%x %v", x.Root(), x.Nodes()) }

// someKeys: keys of all kinds, of a tree of a to k: one of them twice.
var someKeys = []string{"b", "f!", "a", "b", "", "j", "z"}

func TestMadeIsNewMemory(t *testing.T) {
	x := grown(t, "gcaebdfhijk")
	before := treeTold(x)
	l, m := makeOf(x, someKeys...), makeOf(x, someKeys...)
	want := told(m)
	spoilTokens(l)
	if told(m) != want || told(makeOf(x, someKeys...)) != want || treeTold(x) != before {
		t.Error("R6: what Make answers shares memory with the tree, or with what it answers the next time")
	}
}

// Of one answer no two lists share memory: each is spoilt, spare room too, and the others are as they were.
func TestPartsShareNothing(t *testing.T) {
	x := grown(t, "gcaebdfhijk")
	b, _ := Encode(makeOf(x, someKeys...))
	for what, l := range map[string][]api.Token{"Make": makeOf(x, someKeys...), "Decode": decoded(t, b)} {
		before := copied(l)
		for i := range l {
			spoil(l[i].Key)
			if got := told([]api.Token{{Value: l[i].Value}}); got != told([]api.Token{{Value: before[i].Value}}) {
				t.Errorf("R6: of %s's token %d the value shares memory with the key", what, i)
			}
			spoil(l[i].Value)
			for j := i + 1; j < len(l); j++ {
				if told(l[j:j+1]) != told(before[j:j+1]) {
					t.Errorf("R6: of %s's tokens %d and %d share memory", what, i, j)
				}
			}
		}
	}
}

func decoded(t *testing.T, b []byte) []api.Token {
	t.Helper()
	l, e := Decode(b)
	if e != api.OK {
		t.Fatalf("P10.5: Decode: %d", e)
	}
	return l
}

// No key that's asked for is kept in tokens, nor changed, nor put elsewhere.
func TestAskedKeysAreNotKept(t *testing.T) {
	x := grown(t, "gcaebdfhijk")
	var rooms, keys [][]byte
	for _, k := range someKeys {
		rooms = append(rooms, []byte(k+"spare room"))
		keys = append(keys, rooms[len(rooms)-1][:len(k)])
	}
	keys = append(keys, []byte("spare"))[:len(someKeys)]
	l := Make(x, keys)
	want := told(l)
	for i, k := range someKeys {
		if string(keys[i]) != k || string(rooms[i]) != k+"spare room" || string(keys[:cap(keys)][len(someKeys)]) != "spare" {
			t.Errorf("R6: key %d changed", i)
		}
	}
	if again := Make(x, keys); told(again) != want {
		t.Error("R8: Make, asked twice")
	}
	for i := range rooms {
		spoil(rooms[i])
		keys[i] = nil
	}
	if told(l) != want {
		t.Error("R6: keys are kept")
	}
}

// facts: all that they tell.
func facts(f *Facts) string {
	all := ""
	for c := byte('A'); c <= 'z'; c++ {
		all += got(f, []byte{c}) + ", " + got(f, []byte{c, '!'}) + "\n"
	}
	return all
}

func TestCheckedTokensAreNotKept(t *testing.T) {
	x := grown(t, "gcaebdfhijk")
	for _, keys := range [][]string{{}, {"a"}, someKeys, {"g", "h", "i", "k"}} {
		l := roomy(makeOf(x, keys...))
		before := whole(l)
		f, err := Check(x.Root(), l)
		wantCode(t, "P10.2", fmt.Sprintf("Make of %q", keys), err, api.OK)
		Check(sumOf(0), l)
		if whole(l) != before {
			t.Errorf("R6: tokens that were handed in changed, of %q", keys)
		}
		want := facts(f)
		spoilTokens(l)
		if facts(f) != want {
			t.Errorf("R6: tokens that were handed in are kept, of %q", keys)
		}
	}
}

func TestGotIsNewMemory(t *testing.T) {
	x := grown(t, "gcaebdfhijk")
	f, _ := Check(x.Root(), makeOf(x, someKeys...))
	want := facts(f)
	for _, p := range x.All() {
		room := append(bytes.Clone(p.Key), "spare room"...)
		key := room[:len(p.Key)]
		v, _, _ := f.Get(key)
		if string(room) != string(p.Key)+"spare room" {
			t.Errorf("R6: the key %s changed", p.Key)
		}
		spoil(v)
		spoil(room)
		if facts(f) != want {
			t.Errorf("R6: the value of %s shares memory with the facts", p.Key)
		}
	}
	if facts(f) != want {
		t.Error("R8: Get, asked twice")
	}
}

func TestEncodedIsNewMemory(t *testing.T) {
	x := grown(t, "gcaebdfhijk")
	for _, m := range [][]api.Token{makeOf(x, someKeys...), {leafOf("a"), hidden(1), inner(64)}, {leafOf("a"), {Kind: 9}}, {{Kind: api.TLeaf, Key: make([]byte, 65536)}}, make([]api.Token, 2049)} {
		l := roomy(m)
		before := whole(l)
		b, e := Encode(l)
		want := string(b)
		if whole(l) != before {
			t.Errorf("R6: tokens that were handed in changed, %d", e)
		}
		spoil(b)
		if whole(l) != before {
			t.Errorf("R6: bytes share memory with their tokens")
		}
		b, _ = Encode(l)
		if string(b) != want {
			t.Error("R8: Encode, asked twice")
		}
		spoilTokens(l)
		if string(b) != want {
			t.Error("R6: bytes share memory with their tokens")
		}
	}
}

func TestDecodedIsNewMemory(t *testing.T) {
	_, texts := treeBytes(t)
	for i, b := range texts {
		room := append(bytes.Clone(b), "spare room"...)
		l := decoded(t, room[:len(b)])
		want := told(l)
		m := decoded(t, room[:len(b)])
		spoilTokens(m)
		if string(room) != string(b)+"spare room" || told(l) != want {
			t.Errorf("R6: the tokens of text %d share memory with its bytes", i)
		}
		spoil(room)
		if told(l) != want {
			t.Errorf("R6: the bytes of text %d are kept", i)
		}
		if told(decoded(t, b)) != want {
			t.Errorf("R8: text %d, read twice", i)
		}
	}
}
