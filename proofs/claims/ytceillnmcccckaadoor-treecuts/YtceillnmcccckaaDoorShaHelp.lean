/-
  Small facts for the statements' functions: parts handed over, rows of the call's own read as bytes, a table behind a call: no condition.
-/
import Derived.Test.YtceillnmcccckaaDoorShaRef
namespace Go.Proofs.YtceillnmcccckaaDoor.Sh
open Go.RowKit

theorem tab0_below {w w' : World} (h : Tab w 0) (hb : Below w.heap.size w w') (hw : 1 < w.heap.size) : Tab w' 0 := fun j hj => by
  rw [hb.cell (p := ⟨0, j, none⟩) (by show 0 < _; omega)]; exact h j hj

/-- Three slices handed over as parts. -/
theorem parts_three (w : World) (t : TypeId) (A1 A2 A3 : Option Addr) (n1 n2 n3 c1 c2 c3 : Nat) (b1 b2 b3 : List UInt8) (h1 : Reads w A1 n1 b1) (h2 : Reads w A2 n2 b2) (h3 : Reads w A3 n3 b3)
    (k1 : n1 ≤ c1) (k2 : n2 ≤ c2) (k3 : n3 ≤ c3) (m1 : n1 ≤ 140737488355328) (m2 : n2 ≤ 140737488355328) (m3 : n3 ≤ 140737488355328) :
    Parts (w.alloc (.cells #[.slice A1 n1 c1, .slice A2 n2 c2, .slice A3 n3 c3] t)) (some ⟨w.heap.size, 0, none⟩) 3 [b1, b2, b3] := by
  have hb : Below w.heap.size w (w.alloc (.cells #[.slice A1 n1 c1, .slice A2 n2 c2, .slice A3 n3 c3] t)) := (Below.refl _ _).alloc (Nat.le_refl _) _
  refine ⟨rfl, fun _ => ⟨w.heap.size, 0, rfl, by simp, fun j l hl => ?_⟩⟩
  have hj : j < 3 := (List.getElem?_eq_some_iff.1 hl).1
  match j, hj with
  | 0, _ => simp at hl; subst hl; exact ⟨A1, n1, c1, (Whole.made w t _).at_ rfl, k1, m1, h1.below hb⟩
  | 1, _ => simp at hl; subst hl; exact ⟨A2, n2, c2, (Whole.made w t _).at_ rfl, k2, m2, h2.below hb⟩
  | 2, _ => simp at hl; subst hl; exact ⟨A3, n3, c3, (Whole.made w t _).at_ rfl, k3, m3, h3.below hb⟩

/-- A row of the call's own, read as bytes. -/
theorem reads_own {w : World} {base n : Nat} {v : Value} {bs : List UInt8} (h : w.ownsRow base 5 1 v n (bs.map V8)) : ∃ A c, v = .slice A n c ∧ Reads w A n bs := by
  have hl : bs.length = n := by simpa using h.1
  rcases h.2 with ⟨rfl, rfl⟩ | ⟨g, cap, cur, rfl, hb, hg, hnc, hm, hcur, ht⟩
  · exact ⟨none, 0, rfl, hl, fun h => absurd h (by omega)⟩
  · refine ⟨_, cap, rfl, ?_⟩
    have hrow := row_of_take hg ht
    have := hrow.reads 0 n (by omega)
    rwa [List.drop_zero, List.take_of_length_le (by omega)] at this

theorem reads_nil (w : World) : Reads w none 0 [] := ⟨rfl, fun h => absurd h (by omega)⟩
end Go.Proofs.YtceillnmcccckaaDoor.Sh
