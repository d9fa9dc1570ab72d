/-
  Small facts on rows of sums and on regions that draw: no condition.
-/
import Derived.Test.YtbhmldoehgkhfaaDoorLogA
import Derived.Test.YtbhmldoehgkhfaaDoorGrow
namespace Go.Proofs.YtbhmldoehgkhfaaDoor
open Go.RowKit
open Tr

/-- A stronger condition on the worlds serves, too. -/
theorem heldMore {P : Program} {md : Region.Mode} {ops : Array Oper} {Q : Exit → Act → World → Prop} {S S' : World → Prop} (h : ∀ w, S' w → S w) :
    ∀ (fuel : Nat) (listed : Array Bool) (a : Act) (w : World), wpAnyH P md ops Q S' fuel listed a w → wpAnyH P md ops Q S fuel listed a w
  | 0, _, _, _, k => k
  | fuel + 1, _, _, _, k => ⟨k.1, fun i hi => wpOp_mono (fun a' w' k' => ⟨h _ k'.1, heldMore h fuel _ a' w' k'.2⟩) (k.2 i hi)⟩
theorem sums_at (ts : List (Option T)) (t : Option T) (j : Nat) (h : ts[j]? = some t) : ((sums ts).drop (j * 32)).take 32 = osum t := by
  have hj := (List.getElem?_eq_some_iff.1 h).1
  have h1 : ts = ts.take j ++ (t :: ts.drop (j + 1)) := by
    obtain ⟨hl, rfl⟩ := List.getElem?_eq_some_iff.1 h
    rw [← List.drop_eq_getElem_cons hl, List.take_append_drop]
  have h2 : sums ts = sums (ts.take j) ++ (osum t ++ sums (ts.drop (j + 1))) := by
    conv => lhs; rw [h1]
    simp [sums]
  have h3 : (sums (ts.take j)).length = j * 32 := by rw [sums_len, List.length_take, Nat.min_eq_left (by omega)]
  rw [h2, ← h3, List.drop_left]
  have h4 := osum32 t
  rw [← h4, List.take_left]
theorem range_part {w : World} {g n : Nat} {bs : List UInt8} (h : w.rangeAt g 0 (bs.map V8)) (k : Nat) : w.rangeAt g k (((bs.drop k).take n).map V8) := fun j v hv => by
  rw [List.getElem?_map, Option.map_eq_some_iff] at hv
  obtain ⟨x, hx, rfl⟩ := hv
  rw [List.getElem?_take] at hx
  split at hx
  · rw [List.getElem?_drop] at hx
    have := h (k + j) (V8 x) (by rw [List.getElem?_map, hx]; rfl)
    rwa [Nat.zero_add] at this
  · cases hx
/-- A sum in a row of sums. -/
theorem sums_range {w : World} {g : Nat} {ty : TypeId} {ts : List (Option T)} {t : Option T} {j : Nat} (hW : Whole w g ty ((sums ts).map V8).toArray) (h : ts[j]? = some t) : w.rangeAt g (j * 32) ((osum t).map V8) := by
  have h1 : w.rangeAt g 0 ((sums ts).map V8) := hW.range
  have h2 := range_part (n := 32) h1 (j * 32)
  rwa [sums_at ts t j h] at h2
theorem len49 (t : Option T) : (Tryd.prog.info? 49).map (·.size) = some ((osum t).map V8).length := by rw [List.length_map, osum32]; exact info49
theorem own_range {w : World} {base n : Nat} {e : TypeId} {size g c : Nat} {xs : List Value} (h : w.ownsRow base e size (.slice (some ⟨g, 0, none⟩) n c) n xs) : w.rangeAt g 0 xs := fun j v hv => by
  have hj := (List.getElem?_eq_some_iff.1 hv).1
  rw [Nat.zero_add, World.ownsRow.cellAt h j (by rw [← h.1]; exact hj), hv]
/-- A sum in a row of sums that is the call's own. -/
theorem own_sum {w : World} {base n : Nat} {e : TypeId} {g c : Nat} {ts : List (Option T)} {t : Option T} {j : Nat} (h : w.ownsRow base e 32 (.slice (some ⟨g, 0, none⟩) n c) n ((sums ts).map V8)) (ht : ts[j]? = some t) : w.rangeAt g (j * 32) ((osum t).map V8) := by
  have h2 := range_part (n := 32) (own_range h) (j * 32)
  rwa [sums_at ts t j ht] at h2
end Go.Proofs.YtbhmldoehgkhfaaDoor
