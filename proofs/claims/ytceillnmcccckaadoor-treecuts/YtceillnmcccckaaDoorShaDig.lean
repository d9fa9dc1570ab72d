/-
  The running sum (eight words, a block that is being filled, its count, the length) as plain data, byte by byte; how it lies in memory; that filling a stretch at once is filling it byte by byte: no condition but the block's length.
-/
import Derived.Test.YtceillnmcccckaaDoorShaMix
namespace Go.Proofs.YtceillnmcccckaaDoor.Sh
open Go.RowKit

structure Sha.Dg where
  s : Sha.St
  blk : List UInt8
  n : Nat
  len : UInt64

namespace Sha
def Dg.ok (D : Dg) : Prop := D.blk.length = 64 ∧ D.n < 64
def Dg.push (D : Dg) (b : UInt8) : Dg :=
  if D.n + 1 = 64 then ⟨mix D.s (D.blk.set D.n b), D.blk.set D.n b, 0, D.len⟩ else ⟨D.s, D.blk.set D.n b, D.n + 1, D.len⟩
def Dg.pushAll (D : Dg) (l : List UInt8) : Dg := l.foldl Dg.push D
def Dg.add (D : Dg) (l : List UInt8) : Dg := Dg.pushAll ⟨D.s, D.blk, D.n, D.len + UInt64.ofNat l.length⟩ l

theorem Dg.ok_push {D : Dg} (h : D.ok) (b : UInt8) : (D.push b).ok := by
  obtain ⟨h1, h2⟩ := h
  unfold Dg.push Dg.ok
  split
  · exact ⟨by simpa using h1, by show 0 < 64; omega⟩
  · exact ⟨by simpa using h1, by show D.n + 1 < 64; omega⟩
theorem Dg.ok_pushAll {D : Dg} (h : D.ok) (l : List UInt8) : (D.pushAll l).ok := by
  induction l generalizing D with
  | nil => exact h
  | cons b r ih => exact ih (Dg.ok_push h b)
theorem Dg.ok_add {D : Dg} (h : D.ok) (l : List UInt8) : (D.add l).ok := Dg.ok_pushAll (D := ⟨D.s, D.blk, D.n, D.len + UInt64.ofNat l.length⟩) ⟨h.1, h.2⟩ l
theorem Dg.pushAll_append (D : Dg) (a b : List UInt8) : D.pushAll (a ++ b) = (D.pushAll a).pushAll b := List.foldl_append ..
theorem Dg.pushAll_len (D : Dg) (l : List UInt8) : (D.pushAll l).len = D.len := by
  induction l generalizing D with
  | nil => rfl
  | cons b r ih =>
    show ((D.push b).pushAll r).len = D.len
    rw [ih]; unfold Dg.push; split <;> rfl

/-- The block with the bytes l at place n. -/
def lay (blk : List UInt8) (n : Nat) (l : List UInt8) : List UInt8 := blk.take n ++ l ++ blk.drop (n + l.length)
theorem lay_length (blk : List UInt8) (n : Nat) (l : List UInt8) (h : n + l.length ≤ blk.length) : (lay blk n l).length = blk.length := by
  simp [lay]; omega
theorem lay_cons (blk : List UInt8) (n : Nat) (b : UInt8) (r : List UInt8) (h : n < blk.length) : lay (blk.set n b) (n + 1) r = lay blk n (b :: r) := by
  unfold lay
  have e1 : (blk.set n b).take (n + 1) = blk.take n ++ [b] := by
    rw [List.take_add_one, List.take_set_of_le (Nat.le_refl n)]
    simp [h]
  have e2 : (blk.set n b).drop (n + 1 + r.length) = blk.drop (n + 1 + r.length) := by
    rw [List.drop_set_of_lt (by omega)]
  rw [e1, e2]
  simp [Nat.add_assoc, Nat.add_comm 1]
theorem pushAll_some (D : Dg) (l : List UInt8) (h : D.blk.length = 64) (hn : D.n + l.length < 64) :
    D.pushAll l = ⟨D.s, lay D.blk D.n l, D.n + l.length, D.len⟩ := by
  induction l generalizing D with
  | nil => simp [Dg.pushAll, lay]
  | cons b r ih =>
    have hn' : D.n + 1 + r.length < 64 := by simp at hn; omega
    show (D.push b).pushAll r = _
    have e : D.push b = ⟨D.s, D.blk.set D.n b, D.n + 1, D.len⟩ := by unfold Dg.push; rw [if_neg (by omega)]
    rw [e, ih _ (by simpa using h) hn', lay_cons _ _ _ _ (by omega)]
    simp [Nat.add_assoc, Nat.add_comm 1]
theorem pushAll_full (D : Dg) (l : List UInt8) (h : D.blk.length = 64) (hl : l ≠ []) (hn : D.n + l.length = 64) :
    D.pushAll l = ⟨mix D.s (lay D.blk D.n l), lay D.blk D.n l, 0, D.len⟩ := by
  induction l generalizing D with
  | nil => exact absurd rfl hl
  | cons b r ih =>
    have hn' : D.n + 1 + r.length = 64 := by simp at hn; omega
    show (D.push b).pushAll r = _
    by_cases hr : r = []
    · subst hr
      have e : D.push b = ⟨mix D.s (D.blk.set D.n b), D.blk.set D.n b, 0, D.len⟩ := by unfold Dg.push; rw [if_pos (by simpa using hn')]
      have e2 : lay D.blk D.n [b] = D.blk.set D.n b := by
        rw [← lay_cons _ _ _ _ (by omega)]; simp [lay]
      rw [e, e2]
      rfl
    · have hr0 : 0 < r.length := List.length_pos_iff.2 hr
      have e : D.push b = ⟨D.s, D.blk.set D.n b, D.n + 1, D.len⟩ := by unfold Dg.push; rw [if_neg (by omega)]
      rw [e, ih _ (by simpa using h) hr hn', lay_cons _ _ _ _ (by omega)]
end Sha

def V8 (b : UInt8) : Value := .int .u8 b.toNat
def V32 (x : UInt32) : Value := .int .u32 x.toNat
/-- The running sum's 74 cells. -/
def dvals (s : Sha.St) (blk : List UInt8) (n : Nat) (len : UInt64) : List Value := s.list.map V32 ++ (blk.map V8 ++ [.int .i64 n, .int .u64 len.toNat])
def dcells (D : Sha.Dg) : Array Value := (dvals D.s D.blk D.n D.len).toArray

theorem dvals_length (s : Sha.St) (blk : List UInt8) (n : Nat) (len : UInt64) (h : blk.length = 64) : (dvals s blk n len).length = 74 := by
  simp [dvals, Sha.St.list, h]
theorem dvals_72 (s : Sha.St) (blk : List UInt8) (n : Nat) (len : UInt64) (h : blk.length = 64) : (dvals s blk n len)[72]? = some (.int .i64 n) := by
  have e : (s.list.map V32).length = 8 := rfl
  have e2 : (blk.map V8).length = 64 := by simp [h]
  unfold dvals
  rw [List.getElem?_append_right (by omega), List.getElem?_append_right (by omega), e, e2]
  rfl
theorem dvals_73 (s : Sha.St) (blk : List UInt8) (n : Nat) (len : UInt64) (h : blk.length = 64) : (dvals s blk n len)[73]? = some (.int .u64 len.toNat) := by
  have e : (s.list.map V32).length = 8 := rfl
  have e2 : (blk.map V8).length = 64 := by simp [h]
  unfold dvals
  rw [List.getElem?_append_right (by omega), List.getElem?_append_right (by omega), e, e2]
  rfl
theorem dvals_set72 (s : Sha.St) (blk : List UInt8) (n m : Nat) (len : UInt64) (h : blk.length = 64) : (dvals s blk n len).set 72 (.int .i64 m) = dvals s blk m len := by
  have e : (s.list.map V32).length = 8 := rfl
  have e2 : (blk.map V8).length = 64 := by simp [h]
  unfold dvals
  rw [List.set_append_right _ _ (by omega), List.set_append_right _ _ (by omega), e, e2]
  rfl
theorem dvals_set73 (s : Sha.St) (blk : List UInt8) (n : Nat) (len len' : UInt64) (h : blk.length = 64) : (dvals s blk n len).set 73 (.int .u64 len'.toNat) = dvals s blk n len' := by
  have e : (s.list.map V32).length = 8 := rfl
  have e2 : (blk.map V8).length = 64 := by simp [h]
  unfold dvals
  rw [List.set_append_right _ _ (by omega), List.set_append_right _ _ (by omega), e, e2]
  rfl

/-- A stretch of a whole block, stored anew. -/
theorem Whole.setCells {g : Nat} {t : TypeId} : ∀ (vs : List Value) (pre old post : List Value) {w : World}, Whole w g t (pre ++ (old ++ post)).toArray → old.length = vs.length →
    Whole (w.setCells g pre.length vs) g t (pre ++ (vs ++ post)).toArray := by
  intro vs
  induction vs with
  | nil =>
    intro pre old post w h hl
    have : old = [] := List.eq_nil_of_length_eq_zero (by simpa using hl)
    subst this
    exact h
  | cons v r ih =>
    intro pre old post w h hl
    cases old with
    | nil => simp at hl
    | cons u old =>
      have h1 := h.set pre.length v
      have e : ((pre ++ (u :: old ++ post)).toArray).setIfInBounds pre.length v = ((pre ++ [v]) ++ (old ++ post)).toArray := by
        simp
      rw [e] at h1
      have h2 := ih (pre ++ [v]) old post h1 (by simpa using hl)
      simpa [World.setCells] using h2

/-- What the bytes of the block read as behind a copy. -/
theorem whole_lay {w : World} {g : Nat} (s : Sha.St) (blk : List UInt8) (n : Nat) (len : UInt64) (l : List UInt8) (hl : blk.length = 64) (hn : n + l.length ≤ 64) (c : Nat)
    (h : Whole w g 108 (dvals s blk c len).toArray) : Whole (w.setCells g (8 + n) (l.map V8)) g 108 (dvals s (Sha.lay blk n l) c len).toArray := by
  have e0 : dvals s blk c len = (s.list.map V32 ++ (blk.take n).map V8) ++ (((blk.drop n).take l.length).map V8 ++ ((blk.drop (n + l.length)).map V8 ++ [.int .i64 c, .int .u64 len.toNat])) := by
    unfold dvals
    have : blk = blk.take n ++ ((blk.drop n).take l.length ++ blk.drop (n + l.length)) := by
      rw [← List.drop_drop, List.take_append_drop, List.take_append_drop]
    conv => lhs; rw [this]
    simp only [List.map_append, List.append_assoc]
  have e1 : (s.list.map V32 ++ (blk.take n).map V8).length = 8 + n := by
    simp [Sha.St.list]; omega
  rw [e0] at h
  have h1 := Whole.setCells (l.map V8) _ _ _ h (by simp; omega)
  rw [e1] at h1
  have e2 : dvals s (Sha.lay blk n l) c len = (s.list.map V32 ++ (blk.take n).map V8) ++ (l.map V8 ++ ((blk.drop (n + l.length)).map V8 ++ [.int .i64 c, .int .u64 len.toNat])) := by
    unfold dvals Sha.lay
    simp only [List.map_append, List.append_assoc]
  rw [e2]
  exact h1
/-- The eight words, stored anew. -/
theorem whole_words {w : World} {g : Nat} (s s' : Sha.St) (blk : List UInt8) (n : Nat) (len : UInt64) (h : Whole w g 108 (dvals s blk n len).toArray) :
    Whole (w.setCells g 0 (s'.list.map V32)) g 108 (dvals s' blk n len).toArray :=
  Whole.setCells (s'.list.map V32) [] (s.list.map V32) _ h rfl
theorem range_words {w : World} {g : Nat} (s : Sha.St) (blk : List UInt8) (n : Nat) (len : UInt64) (h : Whole w g 108 (dvals s blk n len).toArray) : w.rangeAt g 0 (s.list.map V32) := fun j v hv => by
  refine h.at_ ?_
  rw [Nat.zero_add, List.getElem?_toArray]
  unfold dvals
  rw [List.getElem?_append_left (List.getElem?_eq_some_iff.1 hv).1]
  exact hv
theorem range_blk {w : World} {g : Nat} (s : Sha.St) (blk : List UInt8) (n : Nat) (len : UInt64) (h : Whole w g 108 (dvals s blk n len).toArray) : w.rangeAt g 8 (blk.map V8) := fun j v hv => by
  refine h.at_ ?_
  have e : (s.list.map V32).length = 8 := rfl
  rw [List.getElem?_toArray]
  unfold dvals
  rw [List.getElem?_append_right (by omega), e, Nat.add_sub_cancel_left, List.getElem?_append_left (List.getElem?_eq_some_iff.1 hv).1]
  exact hv

#print axioms whole_lay
end Go.Proofs.YtceillnmcccckaaDoor.Sh
