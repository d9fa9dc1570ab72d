/-
  The statements' fixed facts (chapter 1's two examples) come out true: condition: the table holds its words. It only makes memory of its own.
  What the statement's function ShaCuts returns: true, whatever bytes and cuts come in; conditions: both slices are read, and the table holds its words. It only makes memory of its own.
  What the document's answer calls turn returns; the sum of bytes, block by block: no condition but the turn's range.
  Small facts for the walk of the document's answer Sum: words out of bytes by adding, a new row of 64 words, how memory stands while the text is padded and its blocks are mixed: no condition.
  Small facts for the statements' functions: parts handed over, rows of the call's own read as bytes, a table behind a call: no condition.
-/
import Derived.Lib.SlBytesConst
import Derived.Stop.BytesEq
import Derived.Maps.AppendAt
import Derived.Deep.AppendLies
import Derived.Deep.QuietTactic
import Derived.BigQuiet
import Derived.Deep.CutBlock
import Derived.Test.YtehmkkccnadhoaaDoorPN01
namespace Go.Proofs.YtehmkkccnadhoaaDoor.Sh
open Go.RowKit

theorem sum_length (bs : List UInt8) : (Sha.sum bs).length = 32 := Sha.outTo_length _ _

theorem Whole.setAll {w : World} {g : Nat} {t : TypeId} {cs vs : Array Value} (h : Whole w g t cs) (hl : cs.size = vs.size) : Whole (w.setCells g 0 vs.toList) g t vs := by
  have h1 : Whole w g t ([] ++ (cs.toList ++ [])).toArray := by simpa using h
  have := Whole.setCells vs.toList [] cs.toList [] h1 (by simpa using hl)
  simpa using this
theorem Whole.setOther {w : World} {g b : Nat} {t : TypeId} {cs : Array Value} (h : Whole w g t cs) (hb : g ≠ b) : ∀ (vs : List Value) (o : Nat), Whole (w.setCells b o vs) g t cs := by
  intro vs
  induction vs generalizing w with
  | nil => intro o; exact h
  | cons v r ih => intro o; exact ih (h.other (p := ⟨b, o, none⟩) hb v) (o + 1)
end Go.Proofs.YtehmkkccnadhoaaDoor.Sh
namespace Go.Proofs.YtehmkkccnadhoaaDoor.Sh
open Go.RowKit

theorem info5 : (Tryd.prog.info? 5).map (fun i => (i.zero, i.size, i.bytes)) = some (some (.int .u8 0), 1, 1) := by kernel_rfl
theorem info_of {t : TypeId} {z : Value} {s b : Nat} (h : (Tryd.prog.info? t).map (fun i => (i.zero, i.size, i.bytes)) = some (some z, s, b)) :
    ∃ i, Tryd.prog.info? t = some i ∧ i.zero = some z ∧ i.size = s ∧ i.bytes = b := by
  cases hq : Tryd.prog.info? t with
  | none => simp [hq] at h
  | some i =>
    simp [hq] at h
    exact ⟨i, rfl, h.1, h.2.1, h.2.2⟩

/-- A stretch of a row of bytes, read as a slice. -/
def Row (w : World) (g : Nat) (bs : List UInt8) : Prop := g < w.heap.size ∧ ∀ j v, bs[j]? = some v → w.cell? ⟨g, j, none⟩ = some (V8 v)
theorem Row.below {w w' : World} {g : Nat} {bs : List UInt8} (h : Row w g bs) (hb : Below w.heap.size w w') : Row w' g bs :=
  ⟨Nat.lt_of_lt_of_le h.1 hb.size, fun j v hv => by rw [hb.cell (p := ⟨g, j, none⟩) h.1]; exact h.2 j v hv⟩
/-- The value x is a slice that reads as the bytes l. -/
def SP (w : World) (x : Value) (l : List UInt8) : Prop := ∃ A n c, x = .slice A n c ∧ n ≤ c ∧ n ≤ 140737488355328 ∧ Reads w A n l

/-- How it stands behind k cuts: o bytes are cut off; the parts ls, as the values xs, lie in a row of the call's own. -/
structure CRel (w4 : World) (bs : List UInt8) (k o : Nat) (vp : Value) (xs : List Value) (ls : List (List UInt8)) (wx : World) : Prop where
  own : wx.ownsRow w4.heap.size 22 1 vp k xs
  len : ls.length = k
  all : ls.flatten = bs.take o
  each : ∀ (j : Nat) x l, xs[j]? = some x → ls[j]? = some l → SP w4 x l
  bel : Below w4.heap.size w4 wx
  out : o ≤ bs.length

theorem parts_one (w : World) (t : TypeId) (A : Option Addr) (n c : Nat) (bs : List UInt8) (hr : Reads w A n bs) (hnc : n ≤ c) (hn : n ≤ 140737488355328) :
    Parts (w.alloc (.cells #[.slice A n c] t)) (some ⟨w.heap.size, 0, none⟩) 1 [bs] := by
  refine ⟨rfl, fun _ => ⟨w.heap.size, 0, rfl, by simp, fun j l hl => ?_⟩⟩
  have hj : j < 1 := (List.getElem?_eq_some_iff.1 hl).1
  obtain rfl : j = 0 := by omega
  simp at hl
  subst hl
  exact ⟨A, n, c, (Whole.made w t _).at_ rfl, hnc, hn, hr.below ((Below.refl _ _).alloc (Nat.le_refl _) _)⟩

/-- string(b) of bytes that are read. -/
theorem run_string (w : World) (A : Option Addr) (n c : Nat) (bs : List UInt8) (hr : Reads w A n bs) : (convert 22 9 (.slice A n c)).run Tryd.prog w = .ok (.string ⟨bs.toArray⟩) w := by
  obtain ⟨hn, hall⟩ := hr
  subst hn
  cases A with
  | none =>
    have hbs : bs = [] := by
      rcases Nat.eq_zero_or_pos bs.length with h0 | h0
      · exact List.eq_nil_of_length_eq_zero h0
      · obtain ⟨b, o, h1, _⟩ := hall h0; cases h1
    subst hbs
    rw [run_convert_bytes_string w 22 9 5 none _ _ Tryd.underlying22 Tryd.underlying5 Tryd.underlying9]
    rfl
  | some ad =>
    refine run_convert_bytes_back w 22 9 5 ad c bs Tryd.underlying22 Tryd.underlying5 Tryd.underlying9 fun j hj => ?_
    obtain ⟨b, o, h1, _, h3⟩ := hall (by omega)
    obtain rfl := Option.some.inj h1
    rw [Addr.add_mid]
    exact h3 j _ (List.getElem?_eq_getElem hj)

end Go.Proofs.YtehmkkccnadhoaaDoor.Sh
namespace Go.Proofs.YtehmkkccnadhoaaDoor.Sh
open Go.RowKit
namespace Sha
/-- The words behind k blocks. -/
def run (msg : List UInt8) : Nat → St
  | 0 => init
  | k + 1 => mix (run msg k) ((msg.drop (64 * k)).take 64)
theorem be8_length (L : UInt64) : (be8 L).length = 8 := by simp [be8]
end Sha
end Go.Proofs.YtehmkkccnadhoaaDoor.Sh
namespace Go.Proofs.YtehmkkccnadhoaaDoor.Sh
open Go.RowKit
def z64 : List UInt32 := List.replicate 64 0
namespace Sha
end Sha

/-- How it stands while the text is padded: the text so far, in a row of the call's own. -/
structure RPad (w : World) (v : Value) (l : List UInt8) (wx : World) : Prop where
  own : wx.ownsRow w.heap.size 5 1 v l.length (l.map V8)
  res : Whole wx w.heap.size 44 (bcells (List.replicate 32 0))
  bel : Below w.heap.size w wx
  apart : ∀ k, v.ownBlock = some k → w.heap.size < k

/-- How it stands behind k blocks: the eight words in block gh, the padded text in block gm. -/
structure BRel (w : World) (msg : List UInt8) (gm gh : Nat) (s : Sha.St) (wx : World) : Prop where
  words : Whole wx gh 117 (wcells s.list)
  text : Row wx gm msg
  res : Whole wx w.heap.size 44 (bcells (List.replicate 32 0))
  bel : Below w.heap.size w wx
  tab : Tab wx 0
  hgm : w.heap.size < gm
  hgh : w.heap.size < gh
  ne : gm ≠ gh
theorem BRel.below {w : World} {msg : List UInt8} {gm gh : Nat} {s : Sha.St} {wx w' : World} (h : BRel w msg gm gh s wx) (hb : Below wx.heap.size wx w') (hw : 2 < w.heap.size) : BRel w msg gm gh s w' :=
  ⟨h.words.below hb h.words.lt, h.text.below hb, h.res.below hb h.res.lt, h.bel.trans (hb.mono h.bel.size), fun j hj => by rw [hb.cell (p := ⟨0, j, none⟩) (by have := h.bel.size; show 0 < _; omega)]; exact h.tab j hj, h.hgm, h.hgh, h.ne⟩
theorem BRel.drew {w : World} {msg : List UInt8} {gm gh : Nat} {s : Sha.St} {wx : World} (h : BRel w msg gm gh s wx) : BRel w msg gm gh s wx.drew :=
  ⟨h.words, h.text, h.res, h.bel.drew, h.tab, h.hgm, h.hgh, h.ne⟩
/-- The words of a block, being filled in block gw. -/
structure WRel (w : World) (msg : List UInt8) (gm gh : Nat) (s : Sha.St) (gw : Nat) (l : List UInt32) (wx : World) : Prop where
  base : BRel w msg gm gh s wx
  sch : Whole wx gw 117 (wcells l)
  hgw : w.heap.size < gw
  nem : gm ≠ gw
  neh : gh ≠ gw
theorem WRel.drew {w : World} {msg : List UInt8} {gm gh : Nat} {s : Sha.St} {gw : Nat} {l : List UInt32} {wx : World} (h : WRel w msg gm gh s gw l wx) : WRel w msg gm gh s gw l wx.drew :=
  ⟨h.base.drew, h.sch, h.hgw, h.nem, h.neh⟩
theorem WRel.drewN {w : World} {msg : List UInt8} {gm gh : Nat} {s : Sha.St} {gw : Nat} {l : List UInt32} {wx : World} (h : WRel w msg gm gh s gw l wx) (n : Nat) : WRel w msg gm gh s gw l (wx.drewN n) :=
  ⟨⟨h.base.words, h.base.text, h.base.res, ⟨h.base.bel.os, h.base.bel.tape, h.base.bel.output, h.base.bel.size, h.base.bel.block⟩, h.base.tab, h.base.hgm, h.base.hgh, h.base.ne⟩, h.sch, h.hgw, h.nem, h.neh⟩
theorem Row.other {w : World} {g : Nat} {bs : List UInt8} (h : Row w g bs) {p : Addr} (hp : g ≠ p.block) (u : Value) : Row (w.setCell p u) g bs :=
  ⟨by simpa using h.1, fun j v hv => by
    rw [World.cell?_setCell_other _ _ _ _ (fun e => hp (by rw [e]))]
    exact h.2 j v hv⟩
theorem tab_other {w : World} (h : Tab w 0) {p : Addr} (hp : 0 ≠ p.block) (u : Value) : Tab (w.setCell p u) 0 := fun j hj => by
  rw [World.cell?_setCell_other _ _ _ _ (fun e => hp (by rw [e]))]
  exact h j hj
theorem BRel.other {w : World} {msg : List UInt8} {gm gh : Nat} {s : Sha.St} {wx : World} (h : BRel w msg gm gh s wx) {p : Addr} (h1 : gm ≠ p.block) (h2 : gh ≠ p.block) (h3 : w.heap.size < p.block) (u : Value) : BRel w msg gm gh s (wx.setCell p u) :=
  ⟨h.words.other h2 u, h.text.other h1 u, h.res.other (by omega) u, h.bel.setCell (by omega) u, tab_other h.tab (by omega) u, h.hgm, h.hgh, h.ne⟩
/-- While what was mixed is added: the words so far in block gh, what is added in block gl. -/
structure SRel7 (w : World) (msg : List UInt8) (gm gh gl : Nat) (l r : List UInt32) (wx : World) : Prop where
  words : Whole wx gh 117 (wcells l)
  add : Whole wx gl 117 (wcells r)
  text : Row wx gm msg
  res : Whole wx w.heap.size 44 (bcells (List.replicate 32 0))
  bel : Below w.heap.size w wx
  tab : Tab wx 0
  hgm : w.heap.size < gm
  hgh : w.heap.size < gh
  ne : gm ≠ gh
  nel : gl ≠ gh
theorem SRel7.drew {w : World} {msg : List UInt8} {gm gh gl : Nat} {l r : List UInt32} {wx : World} (h : SRel7 w msg gm gh gl l r wx) : SRel7 w msg gm gh gl l r wx.drew :=
  ⟨h.words, h.add, h.text, h.res, h.bel.drew, h.tab, h.hgm, h.hgh, h.ne, h.nel⟩
namespace Sha
def byteAt (x : UInt32) (m : Nat) : UInt8 := (x >>> UInt32.ofNat (24 - 8 * m)).toUInt8
def outR (l : List UInt32) : Nat → List UInt8
  | 0 => List.replicate 32 0
  | j + 1 => (outR l j).set j (byteAt (l.getD (j / 4) 0) (j % 4))
end Sha
/-- While the words are laid out as bytes. -/
structure ORel (w : World) (gh go : Nat) (l : List UInt32) (j : Nat) (wx : World) : Prop where
  words : Whole wx gh 117 (wcells l)
  out : Whole wx go 44 (bcells (Sha.outR l j))
  res : Whole wx w.heap.size 44 (bcells (List.replicate 32 0))
  bel : Below w.heap.size w wx
  neh : gh ≠ go
  hgo : w.heap.size < go
end Go.Proofs.YtehmkkccnadhoaaDoor.Sh
namespace Go.Proofs.YtehmkkccnadhoaaDoor.Sh
open Go.RowKit

/-- Three slices handed over as parts. -/
theorem parts_three (w : World) (t : TypeId) (A1 A2 A3 : Option Addr) (n1 n2 n3 c1 c2 c3 : Nat) (b1 b2 b3 : List UInt8) (h1 : Reads w A1 n1 b1) (h2 : Reads w A2 n2 b2) (h3 : Reads w A3 n3 b3)
    (k1 : n1 ≤ c1) (k2 : n2 ≤ c2) (k3 : n3 ≤ c3) (m1 : n1 ≤ 140737488355328) (m2 : n2 ≤ 140737488355328) (m3 : n3 ≤ 140737488355328) :
    Parts (w.alloc (.cells #[.slice A1 n1 c1, .slice A2 n2 c2, .slice A3 n3 c3] t)) (some ⟨w.heap.size, 0, none⟩) 3 [b1, b2, b3] := by
  have hb : Below w.heap.size w (w.alloc (.cells #[.slice A1 n1 c1, .slice A2 n2 c2, .slice A3 n3 c3] t)) := (Below.refl _ _).alloc (Nat.le_refl _) _
  refine ⟨rfl, fun _ => ⟨w.heap.size, 0, rfl, by simp, fun j l hl => ?_⟩⟩
  have hj : j < 3 := (List.getElem?_eq_some_iff.1 hl).1
  match j, hj with
  | 0, _ => simp at hl; subst hl; exact ⟨A1, n1, c1, (Whole.made w t _).at_ rfl, k1, m1, h1.below hb⟩
  | 1, _ => simp at hl; subst hl; exact ⟨A2, n2, c2, (Whole.made w t _).at_ rfl, k2, m2, h2.below hb⟩
  | 2, _ => simp at hl; subst hl; exact ⟨A3, n3, c3, (Whole.made w t _).at_ rfl, k3, m3, h3.below hb⟩

end Go.Proofs.YtehmkkccnadhoaaDoor.Sh
