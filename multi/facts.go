package multi

import (
	"bytes"

	"ferryman/api"
	"ferryman/fault"
	"ferryman/tree"
)

// mostHeight: no node is higher.
const mostHeight = 64

// Facts is what tokens show, in order. Those that no Check made show nothing.
type Facts struct {
	leaves []leaf
	closed bool // nothing is hidden behind the last leaf
}

type leaf struct {
	key, value []byte
	closed     bool // nothing is hidden between the one ahead and this one
}

// Check: what tokens show of a root.
func Check(root api.Hash, l []api.Token) (*Facts, error) {
	if len(l) > api.MaxTokens {
		return nil, fault.At("multi: tokens", len(l), api.ErrLong)
	}
	if len(l) == 0 && root == tree.Empty() {
		return &Facts{closed: true}, nil
	}
	r := reader{tokens: l, facts: Facts{closed: true}}
	sum, err := r.node(mostHeight)
	if err != nil {
		return nil, err
	}
	if r.at < len(l) {
		return nil, fault.At("multi: token", r.at, api.ErrLong)
	}
	if sum != root {
		return nil, fault.At("multi: root", 0, api.ErrRoot)
	}
	if i := firstNotAbove(r.facts.leaves); i > 0 {
		return nil, fault.At("multi: leaf", i, api.ErrOrder)
	}
	return &r.facts, nil
}

// reader goes through tokens, and has what they showed so far.
type reader struct {
	tokens []api.Token
	at     int // how many were read
	facts  Facts
}

// node: the sum of the node that the next tokens are, of a Height of at most so much.
func (r *reader) node(most int) (api.Hash, error) {
	if r.at == len(r.tokens) {
		return api.Hash{}, r.wrong(api.ErrShort)
	}
	t := r.tokens[r.at]
	switch t.Kind {
	case api.THidden:
		r.at++
		r.facts.closed = false
		return t.Hash, nil
	case api.TLeaf:
		return r.leaf(t)
	case api.TInner:
		return r.inner(t, most)
	}
	return api.Hash{}, r.wrong(api.ErrKind)
}

// wrong: an error, met at the token that is next.
func (r *reader) wrong(code api.Errno) error { return fault.At("multi: token", r.at, code) }

func (r *reader) leaf(t api.Token) (api.Hash, error) {
	if !mayBeKey(t.Key) || len(t.Value) > api.MaxValue {
		return api.Hash{}, r.wrong(api.ErrKey)
	}
	r.at++
	f := &r.facts
	f.leaves = append(f.leaves, leaf{bytes.Clone(t.Key), bytes.Clone(t.Value), f.closed})
	f.closed = true
	return tree.Hash(api.Node{Key: t.Key, Value: t.Value, Size: 1}), nil
}

func (r *reader) inner(t api.Token, most int) (api.Hash, error) {
	if t.Height < 1 || t.Height > most {
		return api.Hash{}, r.wrong(api.ErrNode)
	}
	r.at++
	left, err := r.node(t.Height - 1)
	if err != nil {
		return api.Hash{}, err
	}
	right, err := r.node(t.Height - 1)
	if err != nil {
		return api.Hash{}, err
	}
	return tree.Hash(api.Node{Height: t.Height, Size: t.Size, Left: left, Right: right}), nil
}

func mayBeKey(key []byte) bool { return len(key) >= 1 && len(key) <= api.MaxKey }

// firstNotAbove: the first leaf whose key isn't above that of the one ahead; 0, if all rise.
func firstNotAbove(l []leaf) int {
	for i := 1; i < len(l); i++ {
		if bytes.Compare(l[i].key, l[i-1].key) <= 0 {
			return i
		}
	}
	return 0
}

// Get: a key's value; is it there; is that known?
func (f *Facts) Get(key []byte) (value []byte, is, known bool) {
	if f == nil || !mayBeKey(key) {
		return nil, false, false
	}
	closed := f.closed
leaves:
	for _, l := range f.leaves {
		switch order := bytes.Compare(l.key, key); {
		case order == 0:
			return bytes.Clone(l.value), true, true
		case order > 0:
			closed = l.closed
			break leaves
		}
	}
	return nil, false, closed
}
