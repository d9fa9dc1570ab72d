package proof

import (
	"bytes"

	"ferryman/api"
	"ferryman/fault"
	"ferryman/tree"
)

// Verify: does a proof lead to a root?
func Verify(want api.Hash, p api.Proof) error {
	if len(p.Turns) > api.MaxTurns {
		return fault.At("proof: turns", len(p.Turns), api.ErrLong)
	}
	if !mayBeKey(p.Key) {
		return fault.At("proof: key", len(p.Key), api.ErrKey)
	}
	if len(p.Value) > api.MaxValue {
		return fault.At("proof: value", len(p.Value), api.ErrKey)
	}
	if i := lastWrong(p.Turns); i >= 0 {
		return fault.At("proof: turn", i, api.ErrNode)
	}
	if leadsTo(p) != want {
		return fault.At("proof: root", 0, api.ErrRoot)
	}
	return nil
}

func mayBeKey(key []byte) bool { return len(key) >= 1 && len(key) <= api.MaxKey }

// lastWrong: the last turn whose Height can't be; -1, if there is none.
func lastWrong(turns []api.Turn) int {
	below := 0
	for i := len(turns) - 1; i >= 0; i-- {
		height := turns[i].Height
		if height <= below || height > api.MaxTurns {
			return i
		}
		below = height
	}
	return -1
}

// leadsTo: the sum of the upmost node, if all that a proof says is so.
func leadsTo(p api.Proof) api.Hash {
	sum := tree.Hash(api.Node{Key: p.Key, Value: p.Value, Size: 1})
	for i := len(p.Turns) - 1; i >= 0; i-- {
		t := p.Turns[i]
		n := api.Node{Height: t.Height, Size: t.Size, Left: sum, Right: t.Other}
		if t.Right {
			n.Left, n.Right = t.Other, sum
		}
		sum = tree.Hash(n)
	}
	return sum
}

// VerifyGap: does a gap show that a key isn't beneath a root?
func VerifyGap(want api.Hash, key []byte, g api.Gap) error {
	if !mayBeKey(key) {
		return fault.At("gap: key", len(key), api.ErrKey)
	}
	if g.Left == nil && g.Right == nil {
		return verifyEmpty(want)
	}
	if !isBetween(g) {
		return fault.At("gap: sides", 0, api.ErrProof)
	}
	if err := verifySide(want, key, g.Left, -1); err != nil {
		return fault.At("gap: left", 0, err)
	}
	return fault.At("gap: right", 0, verifySide(want, key, g.Right, 1))
}

func verifyEmpty(want api.Hash) error {
	if want != tree.Empty() {
		return fault.At("gap: root", 0, api.ErrRoot)
	}
	return nil
}

// verifySide: does a side, if it is there, lead to a root, and is its key where it is to be: -1 below the key, 1 above?
func verifySide(want api.Hash, key []byte, p *api.Proof, order int) error {
	if p == nil {
		return nil
	}
	if err := Verify(want, *p); err != nil {
		return err
	}
	if bytes.Compare(p.Key, key) != order {
		return fault.At("proof: order", 0, api.ErrProof)
	}
	return nil
}

// isBetween: can no leaf stand between the sides, nor outside of the one that is alone? There is one of them at least.
func isBetween(g api.Gap) bool {
	if g.Left == nil {
		return allGo(g.Right.Turns, false)
	}
	if g.Right == nil {
		return allGo(g.Left.Turns, true)
	}
	return areNext(g.Left.Turns, g.Right.Turns)
}

// areNext: do two ways lead to leaves that are next to each other? They part once; what they share must be one way through the same nodes, so whole turns are the same there.
func areNext(left, right []api.Turn) bool {
	for len(left) > 0 && len(right) > 0 && left[0] == right[0] {
		left, right = left[1:], right[1:]
	}
	if len(left) == 0 || len(right) == 0 {
		return false
	}
	return parts(left[0], right[0]) && allGo(left[1:], true) && allGo(right[1:], false)
}

// parts: are these the two turns of one node?
func parts(left, right api.Turn) bool {
	return !left.Right && right.Right && left.Height == right.Height && left.Size == right.Size
}

func allGo(turns []api.Turn, right bool) bool {
	for _, t := range turns {
		if t.Right != right {
			return false
		}
	}
	return true
}
