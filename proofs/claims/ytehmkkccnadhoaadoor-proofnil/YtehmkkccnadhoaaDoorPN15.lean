/-
  Small facts for the rows: a slice of bytes among the arguments is read as bytes; the listed tables hold the 64 words: no condition.
-/
import Derived.Test.YtehmkkccnadhoaaDoorRows
import Derived.ProofKit
import Derived.OpenShut
import Derived.ShutString
import Derived.ChangeOld
import Derived.LaidMore
import Derived.Lib.LaidTab
import Derived.Stop.Joined
import Derived.Test.YtehmkkccnadhoaaDoorPN01
namespace Go.Proofs.YtehmkkccnadhoaaDoor.Sh
open Go.ChangeShapes Go.WideShapes Go.ChangeAt Go.RowKit

theorem own : ownKnob Tryd.prog.godebug = none := by kernel_rfl
theorem laidOut : laidOutB Tryd.prog = true := by kernel_rfl
theorem gThirds : Tryd.prog.globalNamed "ferryman/sha.thirds" = some 2 := by kernel_rfl
theorem tThirds : (Tryd.prog.globals[2]?).map (·.type) = some 149 := by kernel_rfl

/-- A slice of bytes that came in, read. -/
theorem reads_of_ints {w : World} {A : Option Addr} {n : Nat} {zs : List Int} (hA : ∀ i, i < zs.length → ∃ x, A = some x ∧ w.cell? (x.add i) = some (.int .u8 (zs.getD i 0))) (hl : n ≤ zs.length) (hwf : ∀ z ∈ zs, (Lit.int .u8 z).wf = true) :
    Reads w A n ((zs.take n).map fun z => UInt8.ofNat z.toNat) := by
  refine ⟨by rw [List.length_map, List.length_take]; omega, fun hn => ?_⟩
  obtain ⟨x, rfl, _⟩ := hA 0 (by omega)
  have hall : ∀ i, i < zs.length → w.cell? (x.add i) = some (.int .u8 (zs.getD i 0)) := fun i hi => by
    obtain ⟨y, hy, hc⟩ := hA i hi
    injection hy with hy
    subst hy
    exact hc
  obtain ⟨b, o, rfl, hc⟩ := ints_at hall (by omega)
  refine ⟨b, o, rfl, World.block_lt_of_cell? w ⟨b, o + 0, none⟩ (hc 0 (by omega)), fun j v hv => ?_⟩
  rw [List.getElem?_map, Option.map_eq_some_iff] at hv
  obtain ⟨z, hz, rfl⟩ := hv
  have hj : j < n := by
    have := (List.getElem?_eq_some_iff.1 hz).1
    rw [List.length_take] at this
    omega
  rw [List.getElem?_take, if_pos hj] at hz
  rw [hc j (by omega), List.getD_eq_getElem?_getD, hz]
  have hw := hwf z (List.mem_of_getElem? hz)
  have hb := bounds_u8 hw
  show some (Value.int .u8 z) = some (V8 _)
  unfold V8
  have : ((UInt8.ofNat z.toNat).toNat : Int) = z := by
    rw [UInt8.toNat_ofNat']
    omega
  rw [this]

def kkInts : List Int := Sha.kk.map fun x => (x.toNat : Int)
theorem tab_of {W : World} {name : String} {g : Nat} (hg : Tryd.prog.globalNamed name = some g) (h : Lib.TabIs Tryd.prog W name .u32 kkInts) : Tab W g := fun i hi => by
  rw [h.cell hg i (by rw [kkInts, List.length_map]; exact hi)]
  unfold kkInts
  rw [List.getD_eq_getElem?_getD, List.getElem?_map, List.getD_eq_getElem?_getD]
  cases h2 : Sha.kk[i]? with
  | none => simp
  | some x => simp
theorem tab_lt {W : World} {g : Nat} (h : Tab W g) : g < W.heap.size := World.block_lt_of_cell? W ⟨g, 0, none⟩ (h 0 (by omega))

/-- A slice of bytes among the arguments: its value, and what is read of it. -/
theorem open_bytes {H : Type} {enc : TypeId × Value → H} {W : World} {base : Nat} {sp : Nat → Bool} {held : Bool} {a : Option Addr} {len cap : Nat} {x : DataW H} {p : List MemPlace}
    (h : DataW.Trod enc Tryd.prog W base sp held 22 (.slice a len cap) x p) : ∃ bs, Reads W a len bs ∧ len ≤ cap ∧ len ≤ 9223372036854775807 := by
  obtain ⟨fuel, hf⟩ := h
  rcases open_ints Tryd.underlying22 Tryd.underlying5 (by kernel_rfl) hf with ⟨hcs, _⟩ | ⟨x, l, c, zs, hcs, _, hl, hm, hz, _, hcell, hwz⟩
  · simp [Value.cells] at hcs
    obtain ⟨rfl, rfl, rfl⟩ := hcs
    exact ⟨[], ⟨rfl, fun h => absurd h (by omega)⟩, by omega, by omega⟩
  · simp [Value.cells] at hcs
    obtain ⟨rfl, rfl, rfl⟩ := hcs
    unfold maxLen at hm
    exact ⟨_, reads_of_ints (zs := zs) (fun i hi => ⟨_, rfl, hcell i hi⟩) (by rw [hz]; split <;> omega) hwz, hl, by omega⟩
end Go.Proofs.YtehmkkccnadhoaaDoor.Sh
