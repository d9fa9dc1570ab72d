/-
  A queue of slices in memory: a row that is cut at its front and appended at its end: small facts: no condition.
-/
import Derived.ArgAppend
import Derived.Test.YtemagoacjpilaaaDoorNodeA
namespace Go.Proofs.YtemagoacjpilaaaDoor
open Go.RowKit

theorem info56f : (Tryd.prog.info? 29).map (fun i => (i.zero, i.size, i.bytes)) = some (some (.slice none 0 0), 1, 24) := by kernel_rfl
/-- The slice reads as the cells xs, from an offset of a row of the call's own on, all of whose cells behind it may be written. -/
def QAt (w : World) (base : Nat) (v : Value) (m : Nat) (xs : List Value) : Prop :=
  ∃ g o cap, v = .slice (some ⟨g, o, none⟩) m cap ∧ base ≤ g ∧ g < w.heap.size ∧ m ≤ cap ∧ cap ≤ maxLen ∧ xs.length = m ∧
    (∀ (j : Nat) (u : Value), xs[j]? = some u → w.cell? ⟨g, o + j, none⟩ = some u) ∧ (∀ j, j < cap → (w.cell? ⟨g, o + j, none⟩).isSome = true) ∧ ∀ j, w.frozen? ⟨g, j, none⟩ = false
theorem QAt.below {w w' : World} {base m : Nat} {v : Value} {xs : List Value} (h : QAt w base v m xs) (hb : Below w.heap.size w w') : QAt w' base v m xs := by
  obtain ⟨g, o, cap, h1, h2, h3, h4, h5, h6, h7, h8, h9⟩ := h
  exact ⟨g, o, cap, h1, h2, Nat.lt_of_lt_of_le h3 hb.size, h4, h5, h6, fun j u hu => (hb.cell (p := ⟨g, o + j, none⟩) h3).trans (h7 j u hu), fun j hj => by rw [hb.cell (p := ⟨g, o + j, none⟩) h3]; exact h8 j hj,
    fun j => (hb.frozen (p := ⟨g, j, none⟩) h3).trans (h9 j)⟩
/-- The front goes. -/
theorem QAt.pop {w : World} {base m g o cap : Nat} {x : Value} {xs : List Value} {A' : Option Addr} (h : QAt w base (.slice (some ⟨g, o, none⟩) (m + 1) cap) (m + 1) (x :: xs)) (hA : (if cap = 1 then some (⟨g, o, none⟩ : Addr) else some ⟨g, o + 1, none⟩) = A') :
    QAt w base (.slice A' m (cap - 1)) m xs := by
  obtain ⟨g', o', cap', e, h2, h3, h4, h5, h6, h7, h8, h9⟩ := h
  cases e
  by_cases h1 : cap = 1
  · rw [if_pos h1] at hA
    subst hA
    obtain rfl : m = 0 := by omega
    obtain rfl : xs = [] := List.eq_nil_of_length_eq_zero (by simpa using h6)
    exact ⟨g, o, cap - 1, rfl, h2, h3, by omega, by omega, rfl, fun j u hu => by simp at hu, fun j hj => by omega, h9⟩
  · rw [if_neg h1] at hA
    subst hA
    refine ⟨g, o + 1, cap - 1, rfl, h2, h3, by omega, by omega, by simpa using h6, fun j u hu => ?_, fun j hj => ?_, h9⟩
    · have := h7 (j + 1) u (by simpa using hu)
      rwa [show o + 1 + j = o + (j + 1) by omega]
    · have := h8 (j + 1) (by omega)
      rwa [show o + 1 + j = o + (j + 1) by omega]
theorem QAt.of_own {w : World} {base m : Nat} {v : Value} {xs : List Value} (h : w.ownsRow base 29 1 v m xs) (hm : 0 < m) : QAt w base v m xs := by
  have hl := h.1
  rcases h.2 with ⟨_, h0⟩ | ⟨g, cap, cur, rfl, hb, hg, hnc, hcm, hcs, ht⟩
  · omega
  · refine ⟨g, 0, cap, rfl, hb, (Array.getElem?_eq_some_iff.1 hg).1, hnc, hcm, by omega, fun j u hu => ?_, fun j hj => ?_, fun j => by simp [World.frozen?, hg]⟩
    · have hj := (List.getElem?_eq_some_iff.1 hu).1
      rw [cell_of_row w g (0 + j) cur 29 (0, 0) hg, Nat.zero_add]
      rw [← ht, List.getElem?_take, if_pos (by omega)] at hu
      simpa using hu
    · rw [cell_of_row w g (0 + j) cur 29 (0, 0) hg, Nat.zero_add, Array.getElem?_eq_getElem (by omega)]
      rfl
theorem setCells_other (b : Nat) : ∀ (vs : List Value) (o : Nat) (w : World) (k : Nat), k ≠ b → (w.setCells b o vs).heap[k]? = w.heap[k]? := by
  intro vs
  induction vs with
  | nil => intro o w k _; rfl
  | cons v r ih =>
    intro o w k hk
    show ((w.setCell ⟨b, o, none⟩ v).setCells b (o + 1) r).heap[k]? = _
    rw [ih (o + 1) _ k hk]
    exact Below.heap_setCell w ⟨b, o, none⟩ v k hk
theorem setCells_os (b : Nat) : ∀ (vs : List Value) (o : Nat) (w : World), (w.setCells b o vs).os = w.os ∧ (w.setCells b o vs).tape = w.tape ∧ (w.setCells b o vs).output = w.output := by
  intro vs
  induction vs with
  | nil => intro o w; exact ⟨rfl, rfl, rfl⟩
  | cons v r ih => intro o w; exact ih (o + 1) _
/-- Elements more at the end. -/
theorem QAt.append {w : World} {base m : Nat} {v : Value} {xs : List Value} (h : QAt w base v m xs) (hbase : base ≤ w.heap.size) (a : Addr) (n c : Nat) (news : List Value) (hl : news.length = n) (hnews : ∀ j u, news[j]? = some u → w.cell? (a.add j) = some u)
    (h1 : ∀ u ∈ news, u.oneCell' = true) (hx1 : m + n ≤ 1000000) (ty : TypeId) :
    ∃ v' w', (Builtin.append_ #[28, 28] ty #[v, .slice (some a) n c]).run Tryd.prog w = .ok v' w' ∧ QAt w' base v' (m + n) (xs ++ news) ∧ w.grownBy w' v.ownBlock ∧ (v'.ownBlock = v.ownBlock ∨ ∃ b, v'.ownBlock = some b ∧ w.heap.size ≤ b) := by
  obtain ⟨i, hi, hz, hsz, hby⟩ := info_of info56f
  obtain ⟨g, o, cap, rfl, h2, h3, h4, h5, h6, h7, h8, h9⟩ := h
  by_cases hroom : m + n ≤ cap
  · have hr := run_append_room_cells (P := Tryd.prog) w 28 ty 29 i Tryd.underlying28 hi g o m cap a n c news (by rw [hsz]; omega) hnews h1 hroom
      (fun j hj => by rw [hsz]; have := h8 (m + j) (by omega); rwa [show o + m * 1 + j = o + (m + j) by omega]) (fun j _ => h9 _)
    rw [hsz, Nat.mul_one] at hr
    refine ⟨_, _, hr, ⟨g, o, cap, rfl, h2, by rw [size_setCells]; exact h3, hroom, h5, by rw [List.length_append]; omega, fun j u hu => ?_, fun j hj => World.isSome_setCells g news (o + m) w _ (h8 j hj), fun j => ?_⟩, ⟨(setCells_os g news _ w).1, (setCells_os g news _ w).2.1, (setCells_os g news _ w).2.2, by rw [size_setCells]; exact Nat.le_refl _, fun k _ hk => setCells_other g news _ w k (fun e => hk (by rw [e]; rfl))⟩, .inl rfl⟩
    · by_cases hj : j < xs.length
      · rw [List.getElem?_append_left hj] at hu
        rw [World.cell?_setCells_out g news (o + m) w ⟨g, o + j, none⟩ (fun _ _ => .inl (by show o + j < o + m; omega))]
        exact h7 j u hu
      · rw [List.getElem?_append_right (by omega)] at hu
        have hj2 := (List.getElem?_eq_some_iff.1 hu).1
        have := World.cell?_setCells_in g news (o + m) w (fun q hq => by have := h8 (m + q) (by omega); rwa [show o + m + q = o + (m + q) by omega]) (j - xs.length) hj2
        rw [show o + m + (j - xs.length) = o + j by omega] at this
        rw [this]
        rw [List.getElem?_eq_getElem hj2] at hu
        exact hu
    · rw [World.frozen?_setCells]; exact h9 j
  · obtain ⟨v', w', hr, hown, hgr⟩ := run_append_arg_grows (P := Tryd.prog) w 28 ty 29 i _ 1 24 Tryd.underlying28 hi hz hsz hby rfl (by omega) ⟨g, o, none⟩ m cap xs (by omega) (fun j u hu => by rw [Addr.add_mid]; exact h7 j u hu) a n c news (by omega) hnews (by omega) (by unfold maxLen; omega) (by omega)
    refine ⟨v', w', hr, ?_, ⟨hgr.os, hgr.tape, hgr.output, hgr.size, fun k hk hne => hgr.block k hk (fun e => by cases e)⟩, ?_⟩
    · obtain ⟨g', o', cap', e, k2, k3⟩ := QAt.of_own hown (by omega)
      exact ⟨g', o', cap', e, Nat.le_trans hbase k2, k3⟩
    · obtain ⟨g', o', cap', rfl, k2, _⟩ := QAt.of_own hown (by omega)
      exact .inr ⟨g', rfl, k2⟩
end Go.Proofs.YtemagoacjpilaaaDoor
