package multi

import (
	"fmt"
	"strings"
	"testing"

	"ferryman/api"
	"ferryman/tree"
)

func TestExample(t *testing.T) {
	x := grown(t, "abcd")
	l := makeOf(x, "b")
	right, _ := x.Node([]bool{true})
	top, _ := x.Node(nil)
	want := []api.Token{
		{Kind: api.TInner, Height: 2, Size: 4}, {Kind: api.TInner, Height: 1, Size: 2},
		{Kind: api.THidden, Hash: refLeaf([]byte("a"), []byte("of a"))}, {Kind: api.TLeaf, Key: []byte("b"), Value: []byte("of b")},
		{Kind: api.THidden, Hash: top.Right},
	}
	if told(l) != told(want) || right.Size != 2 {
		t.Fatalf("P10.1: Make of b:\n%s", told(l))
	}
	f, err := Check(x.Root(), l)
	wantCode(t, "P10.2", "the tokens of b", err, api.OK)
	for key, want := range map[string]string{"b": "value of b", "a": "unknown", "aa": "unknown", "bb": "unknown", "c": "unknown", "": "unknown"} {
		if is := got(f, []byte(key)); is != want {
			t.Errorf("P10.3: Get of %q: %s, not %s", key, is, want)
		}
	}
}

// Which leaves are told, and what is hidden, as high up as may be.
func TestWhatIsTold(t *testing.T) {
	// Above (((b, d), (f, h)), ((j, l), (n, p))).
	x := grown(t, "bdfhjlnp")
	for _, c := range []struct{ keys, want string }{
		{"", "."},
		{"b", "321b..."}, {"d", "321.d.."}, {"f", "32.1f.."}, {"h", "32.1.h."}, {"j", "3.21j.."}, {"p", "3.2.1.p"},
		{"a", "321b..."}, {"q", "3.2.1.p"},
		{"c", "321bd.."}, {"e", "321.d1f.."}, {"g", "32.1fh."}, {"i", "32.1.h21j.."}, {"k", "3.21jl."}, {"m", "3.21.l1n."}, {"o", "3.2.1np"},
		{"b,b", "321b..."}, {"d,b", "321bd.."}, {"c,b,d,c", "321bd.."}, {"p,b", "321b..2.1.p"}, {"q,a", "321b..2.1.p"}, {"i,c", "321bd1.h21j.."},
		{"b,d,f,h", "321bd1fh."}, {"b,d,f,h,j,l,n,p", "321bd1fh21jl1np"}, {"p,n,l,j,h,f,d,b", "321bd1fh21jl1np"}, {"c,g,k,o", "321bd1fh21jl1np"}, {"e,m", "321.d1f.21.l1n."},
		{"bb", "321bd.."}, {"b\x00", "321bd.."}, {"\x00", "321b..."}, {"\xff\xff", "3.2.1.p"},
	} {
		var keys []string
		if c.keys != "" {
			keys = strings.Split(c.keys, ",")
		}
		l := makeOf(x, keys...)
		if short(l) != c.want {
			t.Errorf("P10.1: Make of %q: %s, not %s", c.keys, short(l), c.want)
		}
		if want := refMake(x, keys); told(l) != told(want) {
			t.Errorf("P10.1: Make of %q:\n%s, not\n%s", c.keys, told(l), told(want))
		}
	}
}

// Keys of lengths that none has are keys that aren't there.
func TestKeysThatCanNotBe(t *testing.T) {
	x := grown(t, "bdfhjlnp")
	for _, c := range []struct{ key, want string }{
		{"", "321b..."}, {strings.Repeat("c", 97), "321bd.."}, {strings.Repeat("q", 97), "3.2.1.p"}, {strings.Repeat("a", 70000), "321b..."}, {"f" + strings.Repeat("\x00", 96), "32.1fh."},
	} {
		if l := makeOf(x, c.key); short(l) != c.want {
			t.Errorf("P10.1: Make of a key of %d bytes: %s, not %s", len(c.key), short(l), c.want)
		}
	}
	if l := Make(x, [][]byte{nil, {}}); short(l) != "321b..." {
		t.Errorf("P10.1: Make of a nil key: %s", short(l))
	}
}

// between: the keys, and texts below all, between each two, above all, and of lengths that no key has.
func between(keys []string) []string {
	l := []string{"", "\x00", "\xff\xff", strings.Repeat("m", 97), strings.Repeat("\xff", 300)}
	for _, k := range keys {
		l = append(l, k, k+"\x00", k[:len(k)-1], k+"!")
	}
	return l
}

// holdMake: what Make answers of keys against the reference; that Check takes it, and what its facts tell of those and of other keys, is so.
func holdMake(t *testing.T, x *tree.Tree, keys, others []string) {
	t.Helper()
	l := Make(x, keysOf(keys))
	if want := refMake(x, keys); told(l) != told(want) {
		t.Fatalf("P10.1: of %d keys Make of %q:\n%s, not\n%s", x.Len(), keys, told(l), told(want))
	}
	if len(l) > 2048 {
		return
	}
	f, err := Check(x.Root(), l)
	if err != nil {
		t.Fatalf("P10.2: of %d keys Make of %q: %v", x.Len(), keys, err)
	}
	for _, key := range keys {
		if len(key) >= 1 && len(key) <= 96 && got(f, []byte(key)) == "unknown" {
			t.Fatalf("P10.4: of %d keys Make of %q: %q isn't known", x.Len(), keys, key)
		}
	}
	for _, key := range append(others, keys...) {
		holdGet(t, x, l, f, key)
	}
}

// holdGet: what facts tell of a key against the reference, and against the tree, if it's known.
func holdGet(t *testing.T, x *tree.Tree, l []api.Token, f *Facts, key string) {
	t.Helper()
	is := got(f, []byte(key))
	if want := refGet(l, key); is != want {
		t.Fatalf("P10.3: of %s Get of %q: %s, not %s", short(l), key, is, want)
	}
	so := "none"
	if v, is := x.Get([]byte(key)); is {
		so = "value " + string(v)
	}
	if is != "unknown" && is != so {
		t.Fatalf("P10.4: of %s Get of %q: %s, but %s is so", short(l), key, is, so)
	}
}

// All sets of keys of trees of up to seven, those that are there and those between.
func TestAllSets(t *testing.T) {
	x := tree.New()
	var all []string
	for i, c := range "hdlbfjn" {
		x = put(t, x, string(c), "of "+string(c))
		all = append(all, string(c))
		for set := range 1 << (i + 1) {
			var keys, near []string
			for j, k := range all {
				if set>>j&1 == 1 {
					keys, near = append(keys, k), append(near, string(k[0]-1), k+"!")
				}
			}
			holdMake(t, x, keys, between(all))
			holdMake(t, x, near, between(all))
		}
	}
}

func TestTreesThatGrow(t *testing.T) {
	const letters = "kqcxgmbtzeohdrfyjanwslvpiu"
	x := tree.New()
	var keys []string
	for i, c := range letters {
		keys = append(keys, string(c))
		x = put(t, x, string(c), "of "+string(c))
		for _, key := range between(keys) {
			holdMake(t, x, []string{key}, keys)
			holdMake(t, x, []string{key, string(letters[i/2])}, keys)
		}
		holdMake(t, x, between(keys), keys)
	}
	for _, c := range "maztkqcbu" {
		x, _ = x.Cut([]byte(string(c)))
		for _, key := range between(keys) {
			holdMake(t, x, []string{key}, keys)
		}
	}
}

// Keys of which one begins the other, of bytes that are no letters, of the greatest length, and values of none and of the greatest length.
func TestKeysOfAllKinds(t *testing.T) {
	keys := []string{"\x00", "\x00\x00", "\x01", "a", "a\x00", "aa", "ab", "b", "\x7f", "\x80", "\xff", "\xff\x00", strings.Repeat("a", 96), strings.Repeat("\xff", 96)}
	values := []string{"", "\x00", strings.Repeat("v", 256)}
	x := tree.New()
	for i, key := range keys {
		x = put(t, x, key, values[i%len(values)])
	}
	for _, key := range between(keys) {
		holdMake(t, x, []string{key}, between(keys))
	}
	holdMake(t, x, keys, between(keys))
}

func TestScripts(t *testing.T) {
	for seed := range uint32(40) {
		x := tree.New()
		n := seed*2654435761 + 12345
		var keys, some []string
		for range 60 {
			n = n*1664525 + 1013904223
			key := string([]byte{'a' + byte(n>>24)%5, 'a' + byte(n>>16)%9})[:1+n>>12&1]
			keys = append(keys, key)
			if n>>8&3 == 0 {
				x, _ = x.Cut([]byte(key))
			} else {
				x = put(t, x, key, key+"="+string(rune('0'+n>>9&7)))
			}
			if n>>4&7 == 0 {
				some = append(some, key, key+"!")
			}
		}
		holdMake(t, x, some, between(keys))
		holdMake(t, x, keys, between(keys))
	}
}

// numbered: a tree of so many keys.
func numbered(t testing.TB, n int) (*tree.Tree, []string) {
	x := tree.New()
	var keys []string
	for i := range n {
		key := fmt.Sprintf("%05d", i*7919%100003)
		keys = append(keys, key)
		x = put(t, x, key, "of "+key)
	}
	return x, keys
}

func TestGreatTree(t *testing.T) {
	x, keys := numbered(t, 3000)
	for i := 1; i <= len(keys); i *= 5 {
		holdMake(t, x, keys[:i], keys[i/2:i])
		holdMake(t, x, between(keys[len(keys)-i:]), keys[:i])
	}
}

// As many leaves as 2047 tokens have, and one more.
func TestManyTokens(t *testing.T) {
	x, keys := numbered(t, 1024)
	l := makeOf(x, keys...)
	if len(l) != 2047 {
		t.Fatalf("P10.1: of 1024 keys %d tokens", len(l))
	}
	f, err := Check(x.Root(), l)
	wantCode(t, "P10.2", "2047 tokens", err, api.OK)
	for _, key := range keys {
		if got(f, []byte(key)) != "value of "+key || got(f, []byte(key+"!")) != "none" {
			t.Fatalf("P10.4: of all keys %s isn't known", key)
		}
	}
	x = put(t, x, "more", "")
	l = makeOf(x, append(keys, "more")...)
	if len(l) != 2049 {
		t.Fatalf("P10.1: of 1025 keys %d tokens", len(l))
	}
	f, err = Check(x.Root(), l)
	wantCode(t, "P10.2", "2049 tokens", err, api.ErrLong)
	if f != nil {
		t.Error("P10.2, R3: facts beside an error")
	}
}

func TestNoTree(t *testing.T) {
	cut, _ := grown(t, "a").Cut([]byte("a"))
	var none *tree.Tree
	for name, x := range map[string]*tree.Tree{"nil": none, "empty": tree.New(), "zero": {}, "cut": cut} {
		for _, keys := range [][][]byte{nil, {}, {nil}, {[]byte("a")}, {[]byte("b"), {}, make([]byte, 97)}} {
			l := Make(x, keys)
			if len(l) != 0 {
				t.Errorf("P10.1, R7: Make of a tree that's %s:\n%s", name, told(l))
			}
			f, err := Check(x.Root(), l)
			wantCode(t, "P10.2", "no tokens of a tree that's "+name, err, api.OK)
			for _, key := range []string{"a", "\x00", strings.Repeat("\xff", 96)} {
				if is := got(f, []byte(key)); is != "none" {
					t.Errorf("P10.2: of a tree that's %s Get of %q: %s", name, key, is)
				}
			}
			for _, key := range []string{"", strings.Repeat("k", 97)} {
				if is := got(f, []byte(key)); is != "unknown" {
					t.Errorf("P10.3: of a tree that's %s Get of a key of %d bytes: %s", name, len(key), is)
				}
			}
		}
	}
}

// A tree of one key: one token, whatever is asked for.
func TestOneKey(t *testing.T) {
	x := grown(t, "m")
	for _, keys := range [][]string{{"m"}, {"a"}, {"z"}, {"a", "z"}, {""}, {"m", "m"}} {
		l := makeOf(x, keys...)
		if short(l) != "m" || string(l[0].Value) != "of m" {
			t.Errorf("P10.1: of one key Make of %q: %s", keys, short(l))
		}
		f, err := Check(x.Root(), l)
		wantCode(t, "P10.2", "one leaf", err, api.OK)
		if got(f, []byte("m")) != "value of m" || got(f, []byte("a")) != "none" || got(f, []byte("z")) != "none" {
			t.Errorf("P10.3: of one key, Make of %q", keys)
		}
	}
	l := makeOf(x)
	if short(l) != "." || l[0].Hash != x.Root() {
		t.Errorf("P10.1: of one key Make of none: %s", short(l))
	}
	f, err := Check(x.Root(), l)
	wantCode(t, "P10.2", "one that is hidden", err, api.OK)
	for _, key := range []string{"a", "m", "z"} {
		if got(f, []byte(key)) != "unknown" {
			t.Errorf("P10.3: of one that is hidden %s is known", key)
		}
	}
}
