/-
  An answer and a header among the arguments are read as their numbers and sums: no condition but that they can be read.
-/
import Derived.Test.YtjepbnhlnomhlaaOpenF
import Derived.Test.YtjepbnhlnomhlaaOpenP
import Derived.Test.YtjepbnhlnomhlaaHeader
namespace Go.Proofs.Ytjepbnhlnomhlaa
open Go.ChangeShapes Go.WideShapes Go.ChangeAt Go.RowKit Go.Deep

theorem cells5 : Try.prog.cellsOf 5 = 1 := by kernel_rfl
theorem cells29 : Try.prog.cellsOf 29 = 32 := by kernel_rfl
theorem cells31 : Try.prog.cellsOf 31 = 130 := by kernel_rfl
theorem cells27 : Try.prog.cellsOf 27 = 2 := by kernel_rfl
theorem cells22' : Try.prog.cellsOf 22 = 1 := by kernel_rfl

section
variable {H : Type} {enc : TypeId × Value → H} {W : World} {base b0 : Nat} {sp : Nat → Bool} {held : Bool}
/-- A sum: 32 bytes. -/
theorem open_sum {fuel : Nat} {cs : List Value} {x : DataW H × List MemPlace} (h : DataW.trod enc Try.prog W base sp held fuel 29 cs = some x) : ∃ bs : List UInt8, bs.length = 32 ∧ cs = bs.map V8 := by
  obtain ⟨xs, m, _, _, hl, hxl, hg⟩ := DataW.trod_array Try.underlying29 h
  rw [cells29] at hl
  rw [cells5] at hg
  obtain ⟨bs, hbl, hb⟩ := choose_list 32 (fun i (b : UInt8) => cs[i]? = some (V8 b)) (fun i hi => by
    have h1 := hg i hi
    rw [Nat.mul_one, List.getElem?_eq_getElem (by omega), take1_drop cs i (.int .u8 0) (by omega)] at h1
    obtain ⟨z, hz, _, hwf⟩ := DataW.trod_int Try.underlying5 h1
    injection hz with hz _
    obtain ⟨b, rfl⟩ := nat_u8 hwf
    refine ⟨b, ?_⟩
    rw [List.getElem?_eq_getElem (by omega)]
    rw [List.getD_eq_getElem?_getD, List.getElem?_eq_getElem (by omega)] at hz
    exact congrArg some hz)
  refine ⟨bs, hbl, List.ext_getElem? fun i => ?_⟩
  by_cases hi : i < 32
  · have h1 : bs[i]? = some (bs[i]'(by omega)) := List.getElem?_eq_getElem _
    rw [hb i _ h1, List.getElem?_map, h1]
    rfl
  · rw [List.getElem?_eq_none (by omega), List.getElem?_eq_none (by rw [List.length_map]; omega)]

theorem open_ack {v : Value} {x : DataW H} {p : List MemPlace} (hval : Value.okWide Try.prog W .any b0 27 v) (h : DataW.Trod enc Try.prog W base sp held 27 v x p) :
    ∃ (ok : Bool) (c : Int), v = .agg #[.bool ok, .int .i64 c] := by
  obtain ⟨fs, hu, hone, hty⟩ : ∃ fs, Try.prog.underlying 27 = some (.struct fs) ∧ oneCellFields Try.prog fs = true ∧ fs.toList.map (·.type) = [4, 25] := ⟨_, Try.underlying27, by kernel_rfl, by kernel_rfl⟩
  have hone' := hone_of hone
  obtain ⟨cs, rfl, hcs⟩ := okWide_struct hu hval
  rw [cells27] at hcs
  obtain ⟨fuel, hf⟩ := h
  obtain ⟨ys, n, _, hx, _, hyl, hg⟩ := DataW.trod_struct hu hf
  have hft : ∀ (i : Nat) (t : TypeId), ([4, 25] : List TypeId)[i]? = some t → ∃ f : Field, fs[i]? = some f ∧ f.type = t := fun i t hi => by
    rw [← hty, List.getElem?_map, Option.map_eq_some_iff] at hi
    obtain ⟨f, hf, e⟩ := hi
    exact ⟨f, by simpa using hf, e⟩
  obtain ⟨l, hl⟩ : ∃ l, cs = l.toArray := ⟨cs.toList, by simp⟩
  subst hl
  have hll : l.length = 2 := by simpa using hcs
  have get : ∀ (i : Nat) (t : TypeId), ([4, 25] : List TypeId)[i]? = some t → ∃ y, DataW.trod enc Try.prog W base sp held n t ((l.drop i).take 1) = some y := fun i t hi => by
    obtain ⟨f, hf, e⟩ := hft i t hi
    have h1 := hg i f hf
    rw [(hone' i f hf).1, (hone' i f hf).2, e] at h1
    have hlt : i < ys.length := by rw [hyl]; exact (Array.getElem?_eq_some_iff.1 hf).1
    refine ⟨ys[i], ?_⟩
    rw [List.getElem?_eq_getElem hlt] at h1
    simpa [Value.cells] using h1
  match l, hll with
  | [v0, v1], _ =>
    obtain ⟨y0, g0⟩ := get 0 4 rfl
    obtain ⟨y1, g1⟩ := get 1 25 rfl
    obtain ⟨b, e0, _⟩ := DataW.trod_bool Try.underlying4 g0
    obtain ⟨z, e1, _, _⟩ := DataW.trod_int Try.underlying25 g1
    simp at e0 e1
    subst e0 e1
    exact ⟨b, z, rfl⟩

theorem open_header {v : Value} {x : DataW H} {p : List MemPlace} (hval : Value.okWide Try.prog W .any b0 31 v) (h : DataW.Trod enc Try.prog W base sp held 31 v x p) :
    ∃ (ht tm : Nat) (a b c d : List UInt8), v = .agg (hcells ht tm a b c d) ∧ ht < 18446744073709551616 ∧ tm < 18446744073709551616 ∧ a.length = 32 ∧ b.length = 32 ∧ c.length = 32 ∧ d.length = 32 := by
  obtain ⟨fs, hu, hty⟩ : ∃ fs, Try.prog.underlying 31 = some (.struct fs) ∧ fs.toList.map (fun f => (f.type, f.offset, Try.prog.cellsOf f.type)) = [(22, 0, 1), (22, 1, 1), (29, 2, 32), (29, 34, 32), (29, 66, 32), (29, 98, 32)] := ⟨_, Try.underlying31, by kernel_rfl⟩
  obtain ⟨cs, rfl, hcs⟩ := okWide_struct hu hval
  rw [cells31] at hcs
  obtain ⟨fuel, hf⟩ := h
  obtain ⟨ys, n, _, hx, _, hyl, hg⟩ := DataW.trod_struct hu hf
  obtain ⟨l, hl⟩ : ∃ l, cs = l.toArray := ⟨cs.toList, by simp⟩
  subst hl
  have hll : l.length = 130 := by simpa using hcs
  have get : ∀ (i t o k : Nat), ([(22, 0, 1), (22, 1, 1), (29, 2, 32), (29, 34, 32), (29, 66, 32), (29, 98, 32)] : List (TypeId × Nat × Nat))[i]? = some (t, o, k) → ∃ y, DataW.trod enc Try.prog W base sp held n t ((l.drop o).take k) = some y := fun i t o k hi => by
    rw [← hty, List.getElem?_map, Option.map_eq_some_iff] at hi
    obtain ⟨f, hf, e⟩ := hi
    have hf' : fs[i]? = some f := by simpa using hf
    have h1 := hg i f hf'
    simp only [Prod.mk.injEq] at e
    rw [e.2.1, e.2.2, e.1] at h1
    have hlt : i < ys.length := by rw [hyl]; exact (Array.getElem?_eq_some_iff.1 hf').1
    refine ⟨ys[i], ?_⟩
    rw [List.getElem?_eq_getElem hlt] at h1
    simpa [Value.cells] using h1
  obtain ⟨y0, g0⟩ := get 0 22 0 1 rfl
  obtain ⟨y1, g1⟩ := get 1 22 1 1 rfl
  obtain ⟨y2, g2⟩ := get 2 29 2 32 rfl
  obtain ⟨y3, g3⟩ := get 3 29 34 32 rfl
  obtain ⟨y4, g4⟩ := get 4 29 66 32 rfl
  obtain ⟨y5, g5⟩ := get 5 29 98 32 rfl
  obtain ⟨z0, e0, _, w0⟩ := DataW.trod_int Try.underlying22 g0
  obtain ⟨z1, e1, _, w1⟩ := DataW.trod_int Try.underlying22 g1
  obtain ⟨a, la, e2⟩ := open_sum g2
  obtain ⟨b, lb, e3⟩ := open_sum g3
  obtain ⟨c, lc, e4⟩ := open_sum g4
  obtain ⟨d, ld, e5⟩ := open_sum g5
  obtain ⟨n0, rfl, b0⟩ := nat_u64 w0
  obtain ⟨n1, rfl, b1⟩ := nat_u64 w1
  refine ⟨n0, n1, a, b, c, d, ?_, b0, b1, la, lb, lc, ld⟩
  unfold hcells
  congr 2
  have s : ∀ (o k : Nat), l.drop o = (l.drop o).take k ++ l.drop (o + k) := fun o k => by
    rw [← List.drop_drop, List.take_append_drop]
  have d98 : l.drop (98 + 32) = [] := List.drop_eq_nil_of_le (by omega)
  have q0 := s 0 1
  have q1 := s 1 1
  have q2 := s 2 32
  have q3 := s 34 32
  have q4 := s 66 32
  have q5 := s 98 32
  rw [e0] at q0
  rw [e1] at q1
  rw [e2] at q2
  rw [e3] at q3
  rw [e4] at q4
  rw [e5, d98, List.append_nil] at q5
  rw [List.drop_zero] at q0
  rw [q0, show 0 + 1 = 1 from rfl, q1, show 1 + 1 = 2 from rfl, q2, show 2 + 32 = 34 from rfl, q3, show 34 + 32 = 66 from rfl, q4, show 66 + 32 = 98 from rfl, q5]
  rfl
end
end Go.Proofs.Ytjepbnhlnomhlaa
