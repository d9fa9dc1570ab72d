package tree

import (
	"bytes"

	"ferryman/api"
)

// node is a node as the document has it, and the two beneath it, whose sums are Left and Right; a leaf has none. It is never changed once it is made, as many trees may stand on it; its sum is kept because each node that is made above it asks for it.
type node struct {
	api.Node
	sum         api.Hash
	left, right *node
}

// leaf: of bytes of its own, since those handed in may change.
func leaf(key, value []byte) *node {
	n := &node{Node: api.Node{Key: bytes.Clone(key), Value: bytes.Clone(value), Size: 1}}
	n.sum = Hash(n.Node)
	return n
}

// above: an inner node above two.
func above(left, right *node) *node {
	n := &node{left: left, right: right}
	n.Key = right.least()
	n.Height = 1 + max(left.Height, right.Height)
	n.Size = left.Size + right.Size
	n.Left, n.Right = left.sum, right.sum
	n.sum = Hash(n.Node)
	return n
}

// balanced: an inner node above what is beneath two, no side of it higher than the other by more than one.
func balanced(left, right *node) *node {
	if left.Height > right.Height+1 {
		return leaningLeft(left, right)
	}
	if right.Height > left.Height+1 {
		return leaningRight(left, right)
	}
	return above(left, right)
}

func leaningLeft(left, right *node) *node {
	outer, middle := left.left, left.right
	if outer.Height < middle.Height {
		return above(above(outer, middle.left), above(middle.right, right))
	}
	return above(outer, above(middle, right))
}

func leaningRight(left, right *node) *node {
	middle, outer := right.left, right.right
	if outer.Height < middle.Height {
		return above(above(left, middle.left), above(middle.right, outer))
	}
	return above(above(left, middle), outer)
}

// with: what stands in n's place once a leaf is put there.
func (n *node) with(l *node) *node {
	if n.isLeaf() {
		return n.beside(l)
	}
	if n.isRight(l.Key) {
		return balanced(n.left, n.right.with(l))
	}
	return balanced(n.left.with(l), n.right)
}

// beside: both leaves; the new one alone, if they have one key.
func (n *node) beside(l *node) *node {
	order := bytes.Compare(l.Key, n.Key)
	if order < 0 {
		return above(l, n)
	}
	if order > 0 {
		return above(n, l)
	}
	return l
}

// without: what stands in n's place once the leaf of a key that is there is taken away; nil, if n is that leaf.
func (n *node) without(key []byte) *node {
	if n.isLeaf() {
		return nil
	}
	if n.isRight(key) {
		rest := n.right.without(key)
		if rest == nil {
			return n.left
		}
		return balanced(n.left, rest)
	}
	rest := n.left.without(key)
	if rest == nil {
		return n.right
	}
	return balanced(rest, n.right)
}

// find: the leaf of a key; nil, if it isn't there.
func (n *node) find(key []byte) *node {
	for n != nil && !n.isLeaf() {
		n = n.side(n.isRight(key))
	}
	if n == nil || !bytes.Equal(n.Key, key) {
		return nil
	}
	return n
}

func (n *node) isLeaf() bool { return n.Height == 0 }

// isRight: is a key's place to the right of an inner node?
func (n *node) isRight(key []byte) bool { return bytes.Compare(key, n.Key) >= 0 }

func (n *node) side(right bool) *node {
	if right {
		return n.right
	}
	return n.left
}

// least: the least key at n or beneath it.
func (n *node) least() []byte {
	for !n.isLeaf() {
		n = n.left
	}
	return n.Key
}

// visit: n ahead of its left side, that ahead of its right one.
func (n *node) visit(see func(*node)) {
	if n == nil {
		return
	}
	see(n)
	n.left.visit(see)
	n.right.visit(see)
}

// told: the node as it is answered, of bytes of its own: nodes share theirs.
func (n *node) told() api.Node {
	t := n.Node
	t.Key, t.Value = bytes.Clone(t.Key), bytes.Clone(t.Value)
	return t
}
