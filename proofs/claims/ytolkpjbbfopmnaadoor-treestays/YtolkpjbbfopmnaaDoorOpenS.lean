/-
  A sum among the arguments: its value is 32 bytes' cells.
-/
import Derived.Test.YtolkpjbbfopmnaaDoorOpenX
namespace Go.Proofs.YtolkpjbbfopmnaaDoor
open Go.ChangeShapes Go.WideShapes Go.ChangeAt Go.RowKit Go.Deep

set_option maxRecDepth 100000 in
theorem open_hash {H : Type} {enc : TypeId × Value → H} {W : World} {base b0 : Nat} {sp : Nat → Bool} {held : Bool} {v : Value} {x : DataW H} {p : List MemPlace} (hval : Value.okWide Tryd.prog W .any b0 29 v)
    (h : DataW.Trod enc Tryd.prog W base sp held 29 v x p) : ∃ bs : List UInt8, bs.length = 32 ∧ v = .agg (Sh.bcells bs) := by
  have hv : ∃ cs, v = .agg cs := by
    simp only [Value.okWide, Tryd.underlying29] at hval
    obtain ⟨cs, h1, _⟩ := hval
    exact ⟨cs, h1⟩
  obtain ⟨cs, rfl⟩ := hv
  obtain ⟨fuel, hf⟩ := h
  obtain ⟨bs, hl, e⟩ := open_sum hf
  refine ⟨bs, hl, congrArg Value.agg ?_⟩
  simp [Value.cells] at e
  exact (Array.toArray_toList (xs := cs)).symm.trans (congrArg List.toArray e)
end Go.Proofs.YtolkpjbbfopmnaaDoor
