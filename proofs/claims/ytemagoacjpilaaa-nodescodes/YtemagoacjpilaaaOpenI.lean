/-
  Slices of numbers and of bytes among the arguments are read, with their sizes: no condition but that they can be read.
-/
import Derived.Test.YtemagoacjpilaaaOpenN
import Derived.Test.YtemagoacjpilaaaTurned
namespace Go.Proofs.Ytemagoacjpilaaa
open Go.ChangeShapes Go.WideShapes Go.ChangeAt Go.RowKit

/-- A slice of numbers among the arguments. -/
theorem open_nums {H : Type} {enc : TypeId × Value → H} {W : World} {base : Nat} {sp : Nat → Bool} {held : Bool} {a : Option Addr} {len cap : Nat} {x : DataW H} {p : List MemPlace}
    (h : DataW.Trod enc Try.prog W base sp held 28 (.slice a len cap) x p) : RdI W W.heap.size a len ∧ len ≤ 9223372036854775807 := by
  obtain ⟨fuel, hf⟩ := h
  rcases open_ints Try.underlying28 Try.underlying3 (by kernel_rfl) hf with ⟨hcs, _⟩ | ⟨ad, l, c, zs, hcs, _, hl, hm, hz, _, hcell, _⟩
  · simp [Value.cells] at hcs
    obtain ⟨rfl, rfl, rfl⟩ := hcs
    exact ⟨fun h => absurd h (by omega), by omega⟩
  · simp [Value.cells] at hcs
    obtain ⟨rfl, rfl, rfl⟩ := hcs
    unfold maxLen at hm
    refine ⟨fun hp => ?_, by omega⟩
    have hlz : len ≤ zs.length := by rw [hz]; split <;> omega
    obtain ⟨b, o, rfl, hc⟩ := ints_at hcell (by omega)
    exact ⟨b, o, rfl, World.block_lt_of_cell? W ⟨b, o + 0, none⟩ (hc 0 (by omega)), fun j hj => ⟨_, hc j (by omega)⟩⟩

/-- A slice of bytes among the arguments, with its size. -/
theorem open_bytes_sized {H : Type} {enc : TypeId × Value → H} {W : World} {base : Nat} {sp : Nat → Bool} {held : Bool} {a : Option Addr} {len cap : Nat} {x : DataW H} {p : List MemPlace}
    (h : DataW.Trod enc Try.prog W base sp held 22 (.slice a len cap) x p) (hsz : ∀ m ∈ x.weights Try.prog 22, m ≤ reachBytes) : ∃ bs, Rd W W.heap.size a len bs ∧ len ≤ cap ∧ len ≤ 140737488355328 := by
  obtain ⟨fuel, hf⟩ := h
  obtain ⟨a', l', c', bs, e, hr, hc, _, hm⟩ := open_bytes1 hf
  simp [Value.cells] at e
  obtain ⟨rfl, rfl, rfl⟩ := e
  exact ⟨bs, hr, hc, hm hsz⟩
end Go.Proofs.Ytemagoacjpilaaa
