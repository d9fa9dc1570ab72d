/-
  Small facts for the rows: slices of bytes and of Booleans among the arguments are read as such; the table starts as the program's text lays it: no condition.
-/
import Derived.Test.YtceillnmcccckaaDoorShaOpen
import Derived.Test.YtceillnmcccckaaDoorRes
import Derived.Deep.Grids
import Derived.Stop.LaidErr
namespace Go.Proofs.YtceillnmcccckaaDoor
open Go.ChangeShapes Go.WideShapes Go.ChangeAt Go.RowKit

/-- A slice of bytes among the arguments: its value, and what is read of it. -/
theorem open_bytes {H : Type} {enc : TypeId × Value → H} {W : World} {base : Nat} {sp : Nat → Bool} {held : Bool} {a : Option Addr} {len cap : Nat} {x : DataW H} {p : List MemPlace}
    (h : DataW.Trod enc Tryd.prog W base sp held 27 (.slice a len cap) x p) : ∃ bs, Rd W W.heap.size a len bs ∧ len ≤ cap ∧ len ≤ 9223372036854775807 := by
  obtain ⟨bs, h1, h2, h3⟩ := Sh.open_bytes h
  exact ⟨bs, rd_of_reads h1, h2, h3⟩
theorem rd_of_bools {w : World} {a : Addr} {len : Nat} {B : Nat → Bool} (h : ∀ i, i < len → w.cell? (a.add i) = some (.bool (B i))) : RdV w w.heap.size 1 (some a) len (((List.range len).map B).map Value.bool) := by
  refine ⟨by simp, fun hn => ?_⟩
  obtain ⟨b, o, pth⟩ := a
  have h0 := h 0 hn
  cases pth with
  | some q =>
    simp [Addr.add, World.cell?] at h0
    split at h0 <;> cases h0
  | none =>
    refine ⟨b, o, rfl, World.block_lt_of_cell? w _ h0, fun j u hu => ?_⟩
    simp only [List.map_map, List.getElem?_map, Option.map_eq_some_iff] at hu
    obtain ⟨i, hi, rfl⟩ := hu
    have hj := (List.getElem?_eq_some_iff.1 hi).1
    rw [List.length_range] at hj
    rw [List.getElem?_range hj] at hi
    injection hi with hi
    subst hi
    have := h j hj
    rwa [Addr.add_mid] at this
/-- A slice of Booleans among the arguments. -/
theorem open_way {H : Type} {enc : TypeId × Value → H} {W : World} {base : Nat} {held : Bool} {a : Option Addr} {len cap : Nat} {x : DataW H} {p : List MemPlace}
    (h : DataW.Trod enc Tryd.prog W base (fun _ => true) held 56 (.slice a len cap) x p) : ∃ bs : List Bool, RdV W W.heap.size 1 a len (bs.map Value.bool) ∧ len ≤ 9223372036854775807 := by
  obtain ⟨fuel, hf⟩ := h
  rcases Go.Deep.open_bools Tryd.underlying56 Tryd.underlying4 (by kernel_rfl) hf with ⟨hcs, _⟩ | ⟨x, l, c, B, hcs, _, hl, hm, _, hcell⟩
  · simp [Value.cells] at hcs
    obtain ⟨rfl, rfl, rfl⟩ := hcs
    exact ⟨[], RdV.nil, by omega⟩
  · simp [Value.cells] at hcs
    obtain ⟨rfl, rfl, rfl⟩ := hcs
    unfold maxLen at hm
    exact ⟨_, rd_of_bools (fun i hi => hcell i (by omega)), by omega⟩
end Go.Proofs.YtceillnmcccckaaDoor
