package proof

import (
	"bytes"
	"crypto/sha256"
	"encoding/binary"
	"fmt"
	"slices"
	"strings"
	"testing"

	"ferryman/api"
	"ferryman/tree"
)

// A second reference: the document's words once more, built otherwise than the package, and without it or the layers beneath, but for the trees themselves.

// refLeaf: a leaf's sum, by the library.
func refLeaf(key, value []byte) api.Hash {
	v := sha256.Sum256(value)
	return sha256.Sum256(slices.Concat([]byte{0, byte(len(key))}, key, v[:]))
}

// refInner: an inner node's sum, by the library.
func refInner(height int, size uint64, left, right api.Hash) api.Hash {
	head := binary.BigEndian.AppendUint64([]byte{1, byte(height)}, size)
	return sha256.Sum256(slices.Concat(head, left[:], right[:]))
}

// refLead: where the turns lead from a leaf's sum, from the upmost one down.
func refLead(turns []api.Turn, leaf api.Hash) api.Hash {
	if len(turns) == 0 {
		return leaf
	}
	below, t := refLead(turns[1:], leaf), turns[0]
	if t.Right {
		return refInner(t.Height, t.Size, t.Other, below)
	}
	return refInner(t.Height, t.Size, below, t.Other)
}

func refRoot(p api.Proof) api.Hash { return refLead(p.Turns, refLeaf(p.Key, p.Value)) }

// refProofs: the proofs of all leaves, rising, out of all nodes in their order.
func refProofs(x *tree.Tree) []api.Proof {
	nodes := x.Nodes()
	var found []api.Proof
	var under func(turns []api.Turn)
	under = func(turns []api.Turn) {
		n := nodes[0]
		nodes = nodes[1:]
		if n.Height == 0 {
			found = append(found, api.Proof{Key: n.Key, Value: n.Value, Turns: slices.Clone(turns)})
			return
		}
		under(append(turns, api.Turn{Height: n.Height, Size: n.Size, Other: n.Right}))
		under(append(turns, api.Turn{Height: n.Height, Size: n.Size, Right: true, Other: n.Left}))
	}
	if len(nodes) > 0 {
		under(nil)
	}
	return found
}

// refGap: the gap of a key by all leaves' proofs; false, if one is its own.
func refGap(all []api.Proof, key string) (api.Gap, bool) {
	var g api.Gap
	for i := range all {
		if string(all[i].Key) < key {
			g.Left = &all[i]
		}
	}
	for i := range slices.Backward(all) {
		if string(all[i].Key) == key {
			return api.Gap{}, false
		}
		if string(all[i].Key) > key {
			g.Right = &all[i]
		}
	}
	return g, true
}

func refVerify(want api.Hash, p api.Proof) api.Errno {
	switch {
	case len(p.Turns) >= 65:
		return api.ErrLong
	case len(p.Key) == 0 || len(p.Key) >= 97 || len(p.Value) >= 257:
		return api.ErrKey
	case refWrongTurn(p.Turns) >= 0:
		return api.ErrNode
	case refRoot(p) != want:
		return api.ErrRoot
	}
	return api.OK
}

// refWrongTurn: the last turn of a wrong Height; -1: none.
func refWrongTurn(turns []api.Turn) int {
	last := -1
	for i, t := range turns {
		next := 0
		if i+1 < len(turns) {
			next = turns[i+1].Height
		}
		if !(t.Height > next && t.Height < 65) {
			last = i
		}
	}
	return last
}

func refVerifyGap(want api.Hash, key string, g api.Gap) api.Errno {
	switch {
	case len(key) == 0 || len(key) >= 97:
		return api.ErrKey
	case g.Left == nil && g.Right == nil && want == sha256.Sum256(nil):
		return api.OK
	case g.Left == nil && g.Right == nil:
		return api.ErrRoot
	case g.Left == nil && strings.Contains(refWay(g.Right), "r"), g.Right == nil && strings.Contains(refWay(g.Left), "l"):
		return api.ErrProof
	case g.Left != nil && g.Right != nil && !refNext(g.Left, g.Right):
		return api.ErrProof
	}
	if g.Left != nil {
		if e := refVerify(want, *g.Left); e != api.OK {
			return e
		}
		if string(g.Left.Key) >= key {
			return api.ErrProof
		}
	}
	if g.Right != nil {
		if e := refVerify(want, *g.Right); e != api.OK {
			return e
		}
		if string(g.Right.Key) <= key {
			return api.ErrProof
		}
	}
	return api.OK
}

// refWay: a proof's way, a letter a turn.
func refWay(p *api.Proof) string {
	var way strings.Builder
	for _, t := range p.Turns {
		way.WriteString(map[bool]string{false: "l", true: "r"}[t.Right])
	}
	return way.String()
}

// refNext: is there a turn that's the one at which both part?
func refNext(left, right *api.Proof) bool {
	l, r := refWay(left), refWay(right)
	for i := range min(len(l), len(r)) {
		a, b := left.Turns[i], right.Turns[i]
		if l[i] == 'l' && r[i] == 'r' && a.Height == b.Height && a.Size == b.Size && slices.Equal(left.Turns[:i], right.Turns[:i]) &&
			strings.Trim(l[i+1:], "r") == "" && strings.Trim(r[i+1:], "l") == "" {
			return true
		}
	}
	return false
}

// field: a field laid by hand, whatever its value.
func field(tag uint8, v string) string {
	return string([]byte{tag}) + piece(v)
}

func piece(v string) string { return string([]byte{byte(len(v) >> 8), byte(len(v))}) + v }

// bare: a number as few bytes, by the library's eight.
func bare(n uint64) string {
	return strings.TrimLeft(string(binary.BigEndian.AppendUint64(nil, n)), "\x00")
}

// some: a field, if it has a value.
func some(tag uint8, v string) string {
	if v == "" {
		return ""
	}
	return field(tag, v)
}

func refTurn(t api.Turn) string {
	right := ""
	if t.Right {
		right = "\x01"
	}
	return some(1, bare(uint64(t.Height))) + some(2, bare(t.Size)) + some(3, right) + field(4, string(t.Other[:]))
}

func refEncode(p api.Proof) (string, api.Errno) {
	if len(p.Turns) >= 65 {
		return "", api.ErrLong
	}
	turns := ""
	for _, t := range p.Turns {
		if t.Height <= 0 || t.Height >= 65 {
			return "", api.ErrNode
		}
		turns += piece(refTurn(t))
	}
	if len(p.Key) >= 65536 || len(p.Value) >= 65536 {
		return "", api.ErrLong
	}
	return some(1, string(p.Key)) + some(2, string(p.Value)) + some(3, turns), api.OK
}

func refEncodeGap(g api.Gap) (string, api.Errno) {
	all := ""
	for i, p := range []*api.Proof{g.Left, g.Right} {
		if p == nil {
			continue
		}
		b, e := refEncode(*p)
		if e != api.OK {
			return "", e
		}
		if len(b) >= 65536 {
			return "", api.ErrLong
		}
		all += some(uint8(i+1), b)
	}
	return all, api.OK
}

// cutOff: what stands in the piece at the beginning, and behind it.
func cutOff(s string) (v, rest string, ok bool) {
	if len(s) < 2 {
		return "", "", false
	}
	n := int(binary.BigEndian.Uint16([]byte(s)))
	if len(s)-2 < n {
		return "", "", false
	}
	return s[2 : 2+n], s[2+n:], true
}

// refFields: tags and values by turns.
func refFields(s string) (l []string, e api.Errno) {
	for s != "" {
		v, rest, ok := cutOff(s[1:])
		switch {
		case !ok:
			return nil, api.ErrShort
		case v == "":
			return nil, api.ErrEmpty
		case len(l) > 0 && s[:1] <= l[len(l)-2]:
			return nil, api.ErrOrder
		}
		l, s = append(l, s[:1], v), rest
	}
	return l, api.OK
}

func refDecodeTurn(s string) (t api.Turn, e api.Errno) {
	l, e := refFields(s)
	if e != api.OK {
		return t, e
	}
	last := ""
	for i := 0; i < len(l); i += 2 {
		tag, v := l[i], l[i+1]
		last = tag
		switch {
		case tag < "\x01" || tag > "\x04":
			return api.Turn{}, api.ErrField
		case tag < "\x03" && (len(v) > 8 || v[0] == 0), tag == "\x03" && v != "\x01", tag == "\x04" && len(v) != 32:
			return api.Turn{}, api.ErrForm
		case tag == "\x01":
			t.Height = int(min(refNumber(v), 1<<20))
		case tag == "\x02":
			t.Size = refNumber(v)
		case tag == "\x03":
			t.Right = true
		default:
			copy(t.Other[:], v)
		}
	}
	if last != "\x04" {
		return api.Turn{}, api.ErrField
	}
	return t, api.OK
}

func refNumber(v string) uint64 {
	return binary.BigEndian.Uint64(append(make([]byte, 8-len(v)), v...))
}

func refDecode(s string) (p api.Proof, e api.Errno) {
	l, e := refFields(s)
	if e != api.OK {
		return p, e
	}
	for i := 0; i < len(l); i += 2 {
		switch l[i] {
		case "\x01":
			p.Key = []byte(l[i+1])
		case "\x02":
			p.Value = []byte(l[i+1])
		case "\x03":
			if p.Turns, e = refDecodeTurns(l[i+1]); e != api.OK {
				return api.Proof{}, e
			}
		default:
			return api.Proof{}, api.ErrField
		}
	}
	if _, e := refEncode(p); e != api.OK {
		return api.Proof{}, e
	}
	return p, api.OK
}

func refDecodeTurns(s string) (turns []api.Turn, e api.Errno) {
	var pieces []string
	for s != "" {
		v, rest, ok := cutOff(s)
		if !ok {
			return nil, api.ErrShort
		}
		pieces, s = append(pieces, v), rest
	}
	for _, v := range pieces {
		t, e := refDecodeTurn(v)
		if e != api.OK {
			return nil, e
		}
		turns = append(turns, t)
	}
	return turns, api.OK
}

func refDecodeGap(s string) (g api.Gap, e api.Errno) {
	l, e := refFields(s)
	if e != api.OK {
		return g, e
	}
	for i := 0; i < len(l); i += 2 {
		if l[i] != "\x01" && l[i] != "\x02" {
			return api.Gap{}, api.ErrField
		}
		p, e := refDecode(l[i+1])
		if e != api.OK {
			return api.Gap{}, e
		}
		if l[i] == "\x01" {
			g.Left = &p
		} else {
			g.Right = &p
		}
	}
	return g, api.OK
}

// told: a proof as a text: nil and empty lists are the same.
func told(p api.Proof) string {
	var b strings.Builder
	fmt.Fprintf(&b, "%q=%q", p.Key, p.Value)
	for _, t := range p.Turns {
		fmt.Fprintf(&b, " %d/%d/%t/%x", t.Height, t.Size, t.Right, t.Other)
	}
	return b.String()
}

func toldSide(p *api.Proof) string {
	if p == nil {
		return "none"
	}
	return told(*p)
}

func toldGap(g api.Gap) string { return toldSide(g.Left) + " | " + toldSide(g.Right) }

// copied: a proof in memory of its own.
func copied(p api.Proof) api.Proof {
	return api.Proof{Key: bytes.Clone(p.Key), Value: bytes.Clone(p.Value), Turns: slices.Clone(p.Turns)}
}

func copiedSide(p *api.Proof) *api.Proof {
	if p == nil {
		return nil
	}
	q := copied(*p)
	return &q
}

func copiedGap(g api.Gap) api.Gap {
	return api.Gap{Left: copiedSide(g.Left), Right: copiedSide(g.Right)}
}

// grown: a tree of a key a letter, put in that order.
func grown(t testing.TB, letters string) *tree.Tree {
	t.Helper()
	x := tree.New()
	for _, c := range letters {
		x = put(t, x, string(c), "of "+string(c))
	}
	return x
}

func put(t testing.TB, x *tree.Tree, key, value string) *tree.Tree {
	t.Helper()
	y, e := x.Put([]byte(key), []byte(value))
	if e != api.OK {
		t.Fatalf("Put of %q: %d", key, e)
	}
	return y
}

// chain: a right proof of so many turns, of Heights falling by step to the last one's 1, and its root.
func chain(turns int) (api.Proof, api.Hash) {
	p := api.Proof{Key: []byte("key"), Value: []byte("value")}
	for i := range turns {
		p.Turns = append(p.Turns, api.Turn{Height: turns - i, Size: uint64(turns-i) * 3, Right: i%3 == 1, Other: sumOf(byte(i))})
	}
	return p, refRoot(p)
}

// sumOf: a sum that is unlike others, no byte of it 0.
func sumOf(n byte) api.Hash {
	var h api.Hash
	for i := range h {
		h[i] = n + byte(i) | 1
	}
	return h
}
