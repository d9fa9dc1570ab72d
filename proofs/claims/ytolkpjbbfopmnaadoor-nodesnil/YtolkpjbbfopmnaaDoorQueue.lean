/-
  A queue of slices in memory: a row that is cut at its front and appended at its end: small facts: no condition.
-/
import Derived.ArgAppend
import Derived.Test.YtolkpjbbfopmnaaDoorNodeA
namespace Go.Proofs.YtolkpjbbfopmnaaDoor
open Go.RowKit

theorem info56f : (Tryd.prog.info? 123).map (fun i => (i.zero, i.size, i.bytes)) = some (some (.slice none 0 0), 1, 24) := by kernel_rfl
/-- The slice reads as the cells xs, from an offset of a row of the call's own on, all of whose cells behind it may be written. -/
def QAt (w : World) (base : Nat) (v : Value) (m : Nat) (xs : List Value) : Prop :=
  ∃ g o cap, v = .slice (some ⟨g, o, none⟩) m cap ∧ base ≤ g ∧ g < w.heap.size ∧ m ≤ cap ∧ cap ≤ maxLen ∧ xs.length = m ∧
    (∀ (j : Nat) (u : Value), xs[j]? = some u → w.cell? ⟨g, o + j, none⟩ = some u) ∧ (∀ j, j < cap → (w.cell? ⟨g, o + j, none⟩).isSome = true) ∧ ∀ j, w.frozen? ⟨g, j, none⟩ = false
theorem QAt.below {w w' : World} {base m : Nat} {v : Value} {xs : List Value} (h : QAt w base v m xs) (hb : Below w.heap.size w w') : QAt w' base v m xs := by
  obtain ⟨g, o, cap, h1, h2, h3, h4, h5, h6, h7, h8, h9⟩ := h
  exact ⟨g, o, cap, h1, h2, Nat.lt_of_lt_of_le h3 hb.size, h4, h5, h6, fun j u hu => (hb.cell (p := ⟨g, o + j, none⟩) h3).trans (h7 j u hu), fun j hj => by rw [hb.cell (p := ⟨g, o + j, none⟩) h3]; exact h8 j hj,
    fun j => (hb.frozen (p := ⟨g, j, none⟩) h3).trans (h9 j)⟩
/-- The front goes. -/
theorem QAt.pop {w : World} {base m g o cap : Nat} {x : Value} {xs : List Value} {A' : Option Addr} (h : QAt w base (.slice (some ⟨g, o, none⟩) (m + 1) cap) (m + 1) (x :: xs)) (hA : (if cap = 1 then some (⟨g, o, none⟩ : Addr) else some ⟨g, o + 1, none⟩) = A') :
    QAt w base (.slice A' m (cap - 1)) m xs := by
  obtain ⟨g', o', cap', e, h2, h3, h4, h5, h6, h7, h8, h9⟩ := h
  cases e
  by_cases h1 : cap = 1
  · rw [if_pos h1] at hA
    subst hA
    obtain rfl : m = 0 := by omega
    obtain rfl : xs = [] := List.eq_nil_of_length_eq_zero (by simpa using h6)
    exact ⟨g, o, cap - 1, rfl, h2, h3, by omega, by omega, rfl, fun j u hu => by simp at hu, fun j hj => by omega, h9⟩
  · rw [if_neg h1] at hA
    subst hA
    refine ⟨g, o + 1, cap - 1, rfl, h2, h3, by omega, by omega, by simpa using h6, fun j u hu => ?_, fun j hj => ?_, h9⟩
    · have := h7 (j + 1) u (by simpa using hu)
      rwa [show o + 1 + j = o + (j + 1) by omega]
    · have := h8 (j + 1) (by omega)
      rwa [show o + 1 + j = o + (j + 1) by omega]
theorem QAt.of_own {w : World} {base m : Nat} {v : Value} {xs : List Value} (h : w.ownsRow base 123 1 v m xs) (hm : 0 < m) : QAt w base v m xs := by
  have hl := h.1
  rcases h.2 with ⟨_, h0⟩ | ⟨g, cap, cur, rfl, hb, hg, hnc, hcm, hcs, ht⟩
  · omega
  · refine ⟨g, 0, cap, rfl, hb, (Array.getElem?_eq_some_iff.1 hg).1, hnc, hcm, by omega, fun j u hu => ?_, fun j hj => ?_, fun j => by simp [World.frozen?, hg]⟩
    · have hj := (List.getElem?_eq_some_iff.1 hu).1
      rw [cell_of_row w g (0 + j) cur 123 (0, 0) hg, Nat.zero_add]
      rw [← ht, List.getElem?_take, if_pos (by omega)] at hu
      simpa using hu
    · rw [cell_of_row w g (0 + j) cur 123 (0, 0) hg, Nat.zero_add, Array.getElem?_eq_getElem (by omega)]
      rfl
theorem setCells_other (b : Nat) : ∀ (vs : List Value) (o : Nat) (w : World) (k : Nat), k ≠ b → (w.setCells b o vs).heap[k]? = w.heap[k]? := by
  intro vs
  induction vs with
  | nil => intro o w k _; rfl
  | cons v r ih =>
    intro o w k hk
    show ((w.setCell ⟨b, o, none⟩ v).setCells b (o + 1) r).heap[k]? = _
    rw [ih (o + 1) _ k hk]
    exact Below.heap_setCell w ⟨b, o, none⟩ v k hk
theorem setCells_os (b : Nat) : ∀ (vs : List Value) (o : Nat) (w : World), (w.setCells b o vs).os = w.os ∧ (w.setCells b o vs).tape = w.tape ∧ (w.setCells b o vs).output = w.output := by
  intro vs
  induction vs with
  | nil => intro o w; exact ⟨rfl, rfl, rfl⟩
  | cons v r ih => intro o w; exact ih (o + 1) _
end Go.Proofs.YtolkpjbbfopmnaaDoor
