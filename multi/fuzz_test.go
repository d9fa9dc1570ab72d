package multi

import (
	"bytes"
	"strings"
	"testing"

	"ferryman/api"
	"ferryman/fault"
	"ferryman/tree"
)

func FuzzDecode(f *testing.F) {
	_, texts := treeBytes(f)
	for _, b := range texts {
		f.Add(b)
	}
	for _, c := range tokenCases() {
		if len(c.want) < 1000 {
			f.Add([]byte(c.want))
		}
	}
	for _, c := range wrongBytes() {
		f.Add([]byte(c.b))
	}
	f.Fuzz(func(t *testing.T, b []byte) {
		l, e := Decode(b)
		if m, want := refDecode(string(b)); e != want || told(l) != told(m) {
			t.Errorf("P10.5: %s, %d, not %s, %d", told(l), e, told(m), want)
		}
		if again, f := Encode(l); e == api.OK && (f != api.OK || !bytes.Equal(again, b)) {
			t.Errorf("P10.5: laid again: %x, %d", again, f)
		}
		holdCheck(t, l)
	})
}

// holdCheck: Check of tokens, be they a tree's or not, against the reference, of the root to which they lead and of others; and what facts tell then.
func holdCheck(t *testing.T, l []api.Token) {
	for _, root := range []api.Hash{rootOf(l), tree.Empty(), sumOf(0)} {
		f, err := Check(root, l)
		if want := refCheck(root, l); fault.Code(err) != want || (err == nil) != (want == api.OK) || (f == nil) != (err != nil) {
			t.Errorf("P10.2: of\n%s%v, not %d", told(l), err, want)
		}
		if err != nil {
			continue
		}
		for _, x := range l {
			for _, key := range []string{string(x.Key), string(x.Key) + "\x00", strings.TrimSuffix(string(x.Key), "\x00"), "a", "\xff"} {
				if is, want := got(f, []byte(key)), refGet(l, key); is != want {
					t.Errorf("P10.3: of\n%sGet of %q: %s, not %s", told(l), key, is, want)
				}
			}
		}
	}
}

// bend: tokens, changed as a row of bytes says, three a change.
func bend(l []api.Token, how []byte) []api.Token {
	for ; len(how) >= 3; how = how[3:] {
		at, by := int(how[1]), how[2]
		if len(l) == 0 {
			l = append(l, leafOf(string(by)))
			continue
		}
		x := &l[at%len(l)]
		switch how[0] % 10 {
		case 0:
			x.Kind = api.TokenKind(by % 5)
		case 1:
			x.Hash[by%32] ^= by
		case 2:
			x.Key = bytes.Repeat([]byte{by}, at/2)
		case 3:
			x.Key = append(x.Key, by)
		case 4:
			x.Value = bytes.Repeat([]byte{by}, 2*at)
		case 5:
			x.Height += int(int8(by))
		case 6:
			x.Size ^= uint64(by)
		case 7:
			l = append(l[:at%len(l):at%len(l)], l[at%len(l)+1:]...)
		case 8:
			l[at%len(l)], l[int(by)%len(l)] = l[int(by)%len(l)], l[at%len(l)]
		default:
			more := []api.Token{hidden(by), leafOf(string(by)), inner(int(by) % 66)}[by%3]
			l = append(l[:at%len(l):at%len(l)], append([]api.Token{more}, l[at%len(l):]...)...)
		}
	}
	return l
}

// scripted: a tree of short keys by a row of bytes, one a key.
func scripted(t testing.TB, script []byte) *tree.Tree {
	x := tree.New()
	for _, c := range script[:min(len(script), 40)] {
		key := []byte{'a' + c%8, 'a' + c/8%4}[:1+c>>7]
		if c>>5&3 == 3 {
			x, _ = x.Cut(key)
		} else {
			x = put(t, x, string(key), string(rune('0'+c>>5&3)))
		}
	}
	return x
}

func FuzzMakeAndCheck(f *testing.F) {
	f.Add([]byte("abcdefgh"), []byte("c"), []byte{})
	f.Add([]byte("a\x81\x82bcd\xe3fgh"), []byte("ca,f,zz"), []byte("\x04\x01\xff"))
	f.Add([]byte("abcdefgh"), []byte(",a,a"), []byte("\x00\x01\x01\x09\x02\x02"))
	f.Add([]byte("abdefgh"), []byte("c,d,e"), []byte("\x07\x00\x01"))
	f.Add([]byte("bdf"), []byte("z"), []byte("\x08\x01\x02\x05\x00\x01"))
	f.Add([]byte(""), []byte("z"), []byte("\x08\x01\x61"))
	f.Fuzz(func(t *testing.T, script, row, how []byte) {
		x := scripted(t, script)
		keys := strings.Split(string(row), ",")
		var others []string
		for _, p := range x.All() {
			others = append(others, string(p.Key), string(p.Key)+"a")
		}
		holdMake(t, x, keys, others)
		l := bend(makeOf(x, keys...), how)
		holdCheck(t, l)
		if f, err := Check(x.Root(), l); err == nil {
			for _, key := range append(others, keys...) {
				holdGet(t, x, l, f, key)
			}
		}
		b, e := Encode(l)
		if want, f := refEncode(l); e != f || string(b) != want {
			t.Errorf("P10.5: Encode: %d, not %d", e, f)
		}
		if m, f := Decode(b); e == api.OK && (f != api.OK || short(m) != short(l)) {
			t.Errorf("P10.5: Decode of Encode: %d", f)
		}
	})
}
