/-
  Small facts for the rows: numbers and slices of bytes among the arguments are read as numbers and bytes: no condition.
-/
import Derived.Test.YtemagoacjpilaaaRows
import Derived.Test.YtemagoacjpilaaaMem
import Derived.ProofKit
import Derived.OpenShut
import Derived.ShutString
import Derived.ChangeOld
import Derived.Stop.Joined
import Derived.ChangeSame
namespace Go.Proofs.Ytemagoacjpilaaa
open Go.ChangeShapes Go.WideShapes Go.ChangeAt Go.RowKit

theorem own : ownKnob Try.prog.godebug = none := by kernel_rfl
theorem laidOut : laidOutB Try.prog = true := by kernel_rfl

theorem nat_u64 {z : Int} (h : (Lit.int .u64 z).wf = true) : ∃ n : Nat, z = n ∧ n < 18446744073709551616 := by
  have h' := bounds_u64 h
  exact ⟨z.toNat, by omega, by omega⟩
theorem nat_u16 {z : Int} (h : (Lit.int .u16 z).wf = true) : ∃ n : Nat, z = n ∧ n < 65536 := by
  have h' := bounds_u16 h
  exact ⟨z.toNat, by omega, by omega⟩
theorem nat_u8 {z : Int} (h : (Lit.int .u8 z).wf = true) : ∃ b : UInt8, z = b.toNat := by
  have hb := bounds_u8 h
  exact ⟨UInt8.ofNat z.toNat, by rw [UInt8.toNat_ofNat']; omega⟩

/-- A slice of bytes that came in, read. -/
theorem rd_of_ints {w : World} {A : Option Addr} {n : Nat} {zs : List Int} (hA : ∀ i, i < zs.length → ∃ x, A = some x ∧ w.cell? (x.add i) = some (.int .u8 (zs.getD i 0))) (hl : n ≤ zs.length) (hwf : ∀ z ∈ zs, (Lit.int .u8 z).wf = true) :
    Rd w w.heap.size A n ((zs.take n).map fun z => UInt8.ofNat z.toNat) := by
  rcases Nat.eq_zero_or_pos n with rfl | hn
  · rw [List.take_zero]; exact Rd.nil
  obtain ⟨x, rfl, _⟩ := hA 0 (by omega)
  have hall : ∀ i, i < zs.length → w.cell? (x.add i) = some (.int .u8 (zs.getD i 0)) := fun i hi => by
    obtain ⟨y, hy, hc⟩ := hA i hi
    injection hy with hy
    subst hy
    exact hc
  obtain ⟨b, o, rfl, hc⟩ := ints_at hall (by omega)
  refine Rd.mk_ (by rw [List.length_map, List.length_take]; omega) b o (World.block_lt_of_cell? w ⟨b, o + 0, none⟩ (hc 0 (by omega))) fun j v hv => ?_
  rw [List.getElem?_map, Option.map_eq_some_iff] at hv
  obtain ⟨z, hz, rfl⟩ := hv
  have hj : j < n := by
    have := (List.getElem?_eq_some_iff.1 hz).1
    rw [List.length_take] at this
    omega
  rw [List.getElem?_take, if_pos hj] at hz
  rw [hc j (by omega), List.getD_eq_getElem?_getD, hz]
  have hb := bounds_u8 (hwf z (List.mem_of_getElem? hz))
  show some (Value.int .u8 z) = some (V8 _)
  unfold V8
  have : ((UInt8.ofNat z.toNat).toNat : Int) = z := by
    rw [UInt8.toNat_ofNat']
    omega
  rw [this]

theorem open_bytes' {H : Type} {enc : TypeId × Value → H} {W : World} {base fuel : Nat} {sp : Nat → Bool} {held : Bool} {v : Value} {x : DataW H × List MemPlace}
    (h : DataW.trod enc Try.prog W base sp held fuel 22 [v] = some x) : ∃ a len cap bs, v = .slice a len cap ∧ Rd W W.heap.size a len bs ∧ len ≤ cap ∧ len ≤ 9223372036854775807 := by
  rcases open_ints Try.underlying22 Try.underlying5 (by kernel_rfl) h with ⟨hcs, _⟩ | ⟨x, l, c, zs, hcs, _, hl, hm, hz, _, hcell, hwz⟩
  · injection hcs with hcs _
    exact ⟨none, 0, 0, [], hcs, Rd.nil, by omega, by omega⟩
  · injection hcs with hcs _
    unfold maxLen at hm
    exact ⟨_, l, c, _, hcs, rd_of_ints (zs := zs) (fun i hi => ⟨_, rfl, hcell i hi⟩) (by rw [hz]; split <;> omega) hwz, hl, by omega⟩

/-- A slice of bytes among the arguments: its value, and what is read of it. -/
theorem open_bytes {H : Type} {enc : TypeId × Value → H} {W : World} {base : Nat} {sp : Nat → Bool} {held : Bool} {a : Option Addr} {len cap : Nat} {x : DataW H} {p : List MemPlace}
    (h : DataW.Trod enc Try.prog W base sp held 22 (.slice a len cap) x p) : ∃ bs, Rd W W.heap.size a len bs ∧ len ≤ cap ∧ len ≤ 9223372036854775807 := by
  obtain ⟨fuel, hf⟩ := h
  obtain ⟨a', len', cap', bs, e, h1, h2, h3⟩ := open_bytes' (v := .slice a len cap) hf
  injection e with e1 e2 e3
  subst e1 e2 e3
  exact ⟨bs, h1, h2, h3⟩
end Go.Proofs.Ytemagoacjpilaaa
