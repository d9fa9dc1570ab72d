package multi

import (
	"bytes"
	"crypto/sha256"
	"encoding/binary"
	"fmt"
	"slices"
	"strings"
	"testing"

	"ferryman/api"
	"ferryman/tree"
)

// A second reference: the document's words once more, built otherwise than the package, and without it or the layers beneath, but for the trees themselves.

// refLeaf: a leaf's sum, by the library.
func refLeaf(key, value []byte) api.Hash {
	v := sha256.Sum256(value)
	return sha256.Sum256(slices.Concat([]byte{0, byte(len(key))}, key, v[:]))
}

// refInner: an inner node's sum, by the library.
func refInner(height int, size uint64, left, right api.Hash) api.Hash {
	head := binary.BigEndian.AppendUint64([]byte{1, byte(height)}, size)
	return sha256.Sum256(slices.Concat(head, left[:], right[:]))
}

// refWanted: by all pairs, the keys of the leaves that are to be told.
func refWanted(pairs []api.Pair, keys []string) map[string]bool {
	wanted := map[string]bool{}
	for _, key := range keys {
		below, above := -1, -1
		is := false
		for i, p := range pairs {
			switch k := string(p.Key); {
			case k == key:
				wanted[k], is = true, true
			case k < key:
				below = i
			case above < 0:
				above = i
			}
		}
		if is {
			continue
		}
		for _, i := range []int{below, above} {
			if i >= 0 {
				wanted[string(pairs[i].Key)] = true
			}
		}
	}
	return wanted
}

// refMake: out of all nodes in their order.
func refMake(x *tree.Tree, keys []string) []api.Token {
	wanted := refWanted(x.All(), keys)
	nodes := x.Nodes()
	// under: the tokens of the next node and all beneath it, and its sum.
	var under func() ([]api.Token, api.Hash)
	under = func() ([]api.Token, api.Hash) {
		n := nodes[0]
		nodes = nodes[1:]
		if n.Height == 0 {
			sum := refLeaf(n.Key, n.Value)
			if !wanted[string(n.Key)] {
				return []api.Token{{Kind: 1, Hash: sum}}, sum
			}
			return []api.Token{{Kind: 2, Key: n.Key, Value: n.Value}}, sum
		}
		left, leftSum := under()
		right, rightSum := under()
		sum := refInner(n.Height, n.Size, leftSum, rightSum)
		if len(left) == 1 && len(right) == 1 && left[0].Kind == 1 && right[0].Kind == 1 {
			return []api.Token{{Kind: 1, Hash: sum}}, sum
		}
		return slices.Concat([]api.Token{{Kind: 3, Height: n.Height, Size: n.Size}}, left, right), sum
	}
	if len(nodes) == 0 {
		return nil
	}
	l, _ := under()
	return l
}

// refShape: do tokens make one tree? By what may still come, the last of it first.
func refShape(l []api.Token) api.Errno {
	open := []int{64}
	for _, t := range l {
		if len(open) == 0 {
			return api.ErrLong
		}
		most := open[len(open)-1]
		open = open[:len(open)-1]
		switch {
		case t.Kind == 1:
		case t.Kind == 2:
			if len(t.Key) == 0 || len(t.Key) >= 97 || len(t.Value) >= 257 {
				return api.ErrKey
			}
		case t.Kind != 3:
			return api.ErrKind
		case t.Height <= 0 || t.Height > most:
			return api.ErrNode
		default:
			open = append(open, t.Height-1, t.Height-1)
		}
	}
	if len(open) > 0 {
		return api.ErrShort
	}
	return api.OK
}

// refRoot: the sum of tokens that make one tree, from the last one to the first.
func refRoot(l []api.Token) api.Hash {
	var sums []api.Hash
	for _, t := range slices.Backward(l) {
		n := len(sums)
		switch t.Kind {
		case 1:
			sums = append(sums, t.Hash)
		case 2:
			sums = append(sums, refLeaf(t.Key, t.Value))
		default:
			sums = append(sums[:n-2], refInner(t.Height, t.Size, sums[n-1], sums[n-2]))
		}
	}
	return sums[0]
}

func refCheck(root api.Hash, l []api.Token) api.Errno {
	switch {
	case len(l) >= 2049:
		return api.ErrLong
	case len(l) == 0 && root == sha256.Sum256(nil):
		return api.OK
	}
	if e := refShape(l); e != api.OK {
		return e
	}
	if refRoot(l) != root {
		return api.ErrRoot
	}
	last := ""
	for _, t := range l {
		if t.Kind != 2 {
			continue
		}
		if last >= string(t.Key) {
			return api.ErrOrder
		}
		last = string(t.Key)
	}
	return api.OK
}

// refGet: of tokens that are right, what they tell of a key, as a text.
func refGet(l []api.Token, key string) string {
	if len(key) == 0 || len(key) >= 97 {
		return "unknown"
	}
	row := "" // what is between the leaves next to the key
	for _, t := range l {
		if t.Kind == 1 {
			row += "?"
		}
		if t.Kind != 2 {
			continue
		}
		if string(t.Key) == key {
			return "value " + string(t.Value)
		}
		if string(t.Key) > key {
			break
		}
		row = ""
	}
	if row == "" {
		return "none"
	}
	return "unknown"
}

// got: what facts tell of a key, as such a text.
func got(f *Facts, key []byte) string {
	v, is, known := f.Get(key)
	switch {
	case is && known:
		return "value " + string(v)
	case len(v) > 0 || is:
		return fmt.Sprintf("%q, %t, %t", v, is, known)
	case known:
		return "none"
	}
	return "unknown"
}

// field: a field laid by hand, whatever its value.
func field(tag uint8, v string) string {
	return string([]byte{tag}) + piece(v)
}

func piece(v string) string { return string([]byte{byte(len(v) >> 8), byte(len(v))}) + v }

// bare: a number as few bytes, by the library's eight.
func bare(n uint64) string {
	return strings.TrimLeft(string(binary.BigEndian.AppendUint64(nil, n)), "\x00")
}

// some: a field, if it has a value.
func some(tag uint8, v string) string {
	if v == "" {
		return ""
	}
	return field(tag, v)
}

func refEncode(l []api.Token) (string, api.Errno) {
	if len(l) >= 2049 {
		return "", api.ErrLong
	}
	all, long := "", false
	for _, t := range l {
		b := some(1, bare(uint64(t.Kind)))
		switch {
		case t.Kind == 1:
			b += field(2, string(t.Hash[:]))
		case t.Kind == 2 && (len(t.Key) >= 65536 || len(t.Value) >= 65536):
			return "", api.ErrLong
		case t.Kind == 2:
			b += some(3, string(t.Key)) + some(4, string(t.Value))
		case t.Kind == 3 && (t.Height <= 0 || t.Height >= 65):
			return "", api.ErrNode
		case t.Kind == 3:
			b += some(5, bare(uint64(t.Height))) + some(6, bare(t.Size))
		default:
			return "", api.ErrKind
		}
		long = long || len(b) >= 65536
		all += piece(b)
	}
	if long || len(all) >= 65537 {
		return "", api.ErrLong
	}
	return all, api.OK
}

// cutOff: what stands in the piece at the beginning, and behind it.
func cutOff(s string) (v, rest string, ok bool) {
	if len(s) < 2 {
		return "", "", false
	}
	n := int(binary.BigEndian.Uint16([]byte(s)))
	if len(s)-2 < n {
		return "", "", false
	}
	return s[2 : 2+n], s[2+n:], true
}

// refFields: tags and values by turns.
func refFields(s string) (l []string, e api.Errno) {
	for s != "" {
		v, rest, ok := cutOff(s[1:])
		switch {
		case !ok:
			return nil, api.ErrShort
		case v == "":
			return nil, api.ErrEmpty
		case len(l) > 0 && s[:1] <= l[len(l)-2]:
			return nil, api.ErrOrder
		}
		l, s = append(l, s[:1], v), rest
	}
	return l, api.OK
}

func refNumber(v string) uint64 {
	return binary.BigEndian.Uint64(append(make([]byte, 8-len(v)), v...))
}

func refToken(s string) (t api.Token, e api.Errno) {
	l, e := refFields(s)
	if e != api.OK {
		return t, e
	}
	for i := 0; i < len(l); i += 2 {
		tag, v := l[i], l[i+1]
		number := strings.Contains("\x01\x05\x06", tag)
		switch {
		case tag < "\x01" || tag > "\x06":
			return api.Token{}, api.ErrField
		case number && (len(v) > 8 || v[0] == 0), tag == "\x02" && len(v) != 32:
			return api.Token{}, api.ErrForm
		case tag == "\x01":
			t.Kind = api.TokenKind(min(refNumber(v), 255))
		case tag == "\x02":
			copy(t.Hash[:], v)
		case tag == "\x03":
			t.Key = []byte(v)
		case tag == "\x04":
			t.Value = []byte(v)
		case tag == "\x05":
			t.Height = int(min(refNumber(v), 1<<20))
		default:
			t.Size = refNumber(v)
		}
	}
	return t, api.OK
}

func refDecode(s string) (l []api.Token, e api.Errno) {
	if len(s) >= 65537 {
		return nil, api.ErrLong
	}
	var pieces []string
	for rest := s; rest != ""; {
		v, behind, ok := cutOff(rest)
		if !ok {
			return nil, api.ErrShort
		}
		pieces, rest = append(pieces, v), behind
	}
	for _, v := range pieces {
		t, e := refToken(v)
		if e != api.OK {
			return nil, e
		}
		l = append(l, t)
	}
	again, e := refEncode(l)
	if e != api.OK {
		return nil, e
	}
	if again != s {
		return nil, api.ErrField
	}
	return l, api.OK
}

// told: tokens as a text: nil and empty lists are the same.
func told(l []api.Token) string {
	var b strings.Builder
	for _, t := range l {
		fmt.Fprintf(&b, "%d %x %q=%q %d/%d\n", t.Kind, t.Hash, t.Key, t.Value, t.Height, t.Size)
	}
	return b.String()
}

// short: tokens as a text that says of sums nothing: a dot a hidden one, a leaf's key, a Height ahead of what is beneath.
func short(l []api.Token) string {
	var b strings.Builder
	for _, t := range l {
		switch t.Kind {
		case 1:
			b.WriteString(".")
		case 2:
			b.Write(t.Key)
		default:
			fmt.Fprint(&b, t.Height)
		}
	}
	return b.String()
}

// copied: tokens in memory of their own.
func copied(l []api.Token) []api.Token {
	m := slices.Clone(l)
	for i, t := range m {
		m[i].Key, m[i].Value = bytes.Clone(t.Key), bytes.Clone(t.Value)
	}
	return m
}

func keysOf(texts []string) [][]byte {
	var l [][]byte
	for _, s := range texts {
		l = append(l, []byte(s))
	}
	return l
}

// makeOf: Make of keys that are texts.
func makeOf(x *tree.Tree, keys ...string) []api.Token { return Make(x, keysOf(keys)) }

// grown: a tree of a key a letter, put in that order.
func grown(t testing.TB, letters string) *tree.Tree {
	t.Helper()
	x := tree.New()
	for _, c := range letters {
		x = put(t, x, string(c), "of "+string(c))
	}
	return x
}

func put(t testing.TB, x *tree.Tree, key, value string) *tree.Tree {
	t.Helper()
	y, e := x.Put([]byte(key), []byte(value))
	if e != api.OK {
		t.Fatalf("Put of %q: %d", key, e)
	}
	return y
}

// sumOf: a sum that is unlike others, no byte of it 0.
func sumOf(n byte) api.Hash {
	var h api.Hash
	for i := range h {
		h[i] = n + byte(i) | 1
	}
	return h
}

// hidden, leafOf, inner: tokens by hand.
func hidden(n byte) api.Token { return api.Token{Kind: api.THidden, Hash: sumOf(n)} }

func leafOf(key string) api.Token {
	return api.Token{Kind: api.TLeaf, Key: []byte(key), Value: []byte("of " + key)}
}

func inner(height int) api.Token {
	return api.Token{Kind: api.TInner, Height: height, Size: uint64(height) * 3}
}
