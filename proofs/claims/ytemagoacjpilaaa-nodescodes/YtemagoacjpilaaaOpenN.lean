/-
  A node among the arguments is read as its bytes, numbers and sums: no condition but that it can be read.
-/
import Derived.Test.YtemagoacjpilaaaOpen
import Derived.Test.YtemagoacjpilaaaNdMem
import Derived.Deep.Fields
import Derived.SizedLaws
namespace Go.Proofs.Ytemagoacjpilaaa
open Go.ChangeShapes Go.WideShapes Go.ChangeAt Go.RowKit Go.Deep

theorem choose_list {α : Type} (n : Nat) (P : Nat → α → Prop) (h : ∀ i, i < n → ∃ y, P i y) : ∃ l : List α, l.length = n ∧ ∀ i y, l[i]? = some y → P i y := by
  induction n with
  | zero => exact ⟨[], rfl, fun i y h => by simp at h⟩
  | succ n ih =>
    obtain ⟨l, hl, hP⟩ := ih fun i hi => h i (by omega)
    obtain ⟨y, hy⟩ := h n (by omega)
    refine ⟨l ++ [y], by simp [hl], fun i z hz => ?_⟩
    by_cases hi : i < n
    · rw [List.getElem?_append_left (by omega)] at hz
      exact hP i z hz
    · rw [List.getElem?_append_right (by omega), hl] at hz
      have h1 : i - n < 1 := (List.getElem?_eq_some_iff.1 hz).1
      obtain rfl : i = n := by omega
      rw [Nat.sub_self] at hz
      simp at hz
      subst hz
      exact hy

theorem cells5 : Try.prog.cellsOf 5 = 1 := by kernel_rfl
theorem cells49 : Try.prog.cellsOf 25 = 32 := by kernel_rfl
theorem cells64 : Try.prog.cellsOf 27 = 68 := by kernel_rfl

section
variable {H : Type} {enc : TypeId × Value → H} {W : World} {base b0 : Nat} {sp : Nat → Bool} {held : Bool}
/-- A slice of bytes, as one cell. -/
theorem open_bytes1 {fuel : Nat} {cs : List Value} {x : DataW H × List MemPlace} (h : DataW.trod enc Try.prog W base sp held fuel 22 cs = some x) :
    ∃ a len cap bs, cs = [.slice a len cap] ∧ Rd W W.heap.size a len bs ∧ len ≤ cap ∧ len ≤ 9223372036854775807 ∧ ((∀ m ∈ x.1.weights Try.prog 22, m ≤ reachBytes) → len ≤ 140737488355328) := by
  rcases open_ints Try.underlying22 Try.underlying5 (by kernel_rfl) h with ⟨hcs, _⟩ | ⟨x, l, c, zs, hcs, _, hl, hm, hz, hx, hcell, hwz⟩
  · exact ⟨none, 0, 0, [], hcs, Rd.nil, by omega, by omega, fun _ => by omega⟩
  · unfold maxLen at hm
    have hlz : l ≤ zs.length := by rw [hz]; split <;> omega
    refine ⟨_, l, c, _, hcs, rd_of_ints (zs := zs) (fun i hi => ⟨_, rfl, hcell i hi⟩) hlz hwz, hl, by omega, fun hsz => ?_⟩
    rw [hx] at hsz
    have h1 : (Try.prog.bytesOf 5) = 1 := by kernel_rfl
    have h2 := hsz ((ChangeShapes.lits (H := H) .u8 (zs.take l)).length + (ChangeShapes.lits (H := H) .u8 (zs.drop l)).length) (by
      show _ ∈ DataW.weights Try.prog 22 (.slice _ _)
      simp [DataW.weights, Try.underlying22, h1])
    have h3 : (ChangeShapes.lits (H := H) .u8 (zs.take l)).length = l := by simp [ChangeShapes.lits]; omega
    have h4 : reachBytes ≤ 140737488355328 := by decide
    omega
/-- A sum: 32 bytes. -/
theorem open_sum {fuel : Nat} {cs : List Value} {x : DataW H × List MemPlace} (h : DataW.trod enc Try.prog W base sp held fuel 25 cs = some x) : ∃ bs : List UInt8, bs.length = 32 ∧ cs = bs.map V8 := by
  obtain ⟨xs, m, _, _, hl, hxl, hg⟩ := DataW.trod_array Try.underlying25 h
  rw [cells49] at hl
  rw [cells5] at hg
  obtain ⟨bs, hbl, hb⟩ := choose_list 32 (fun i (b : UInt8) => cs[i]? = some (V8 b)) (fun i hi => by
    have h1 := hg i hi
    rw [Nat.mul_one, List.getElem?_eq_getElem (by omega), take1_drop cs i (.int .u8 0) (by omega)] at h1
    obtain ⟨z, hz, _, hwf⟩ := DataW.trod_int Try.underlying5 h1
    injection hz with hz _
    obtain ⟨b, rfl⟩ := nat_u8 hwf
    refine ⟨b, ?_⟩
    rw [List.getElem?_eq_getElem (by omega)]
    rw [List.getD_eq_getElem?_getD, List.getElem?_eq_getElem (by omega)] at hz
    exact congrArg some hz)
  refine ⟨bs, hbl, List.ext_getElem? fun i => ?_⟩
  by_cases hi : i < 32
  · have h1 : bs[i]? = some (bs[i]'(by omega)) := List.getElem?_eq_getElem _
    rw [hb i _ h1, List.getElem?_map, h1]
    rfl
  · rw [List.getElem?_eq_none (by omega), List.getElem?_eq_none (by rw [List.length_map]; omega)]

set_option maxRecDepth 100000 in
theorem open_node {v : Value} {x : DataW H} {p : List MemPlace} (hval : Value.okWide Try.prog W .any b0 27 v) (h : DataW.Trod enc Try.prog W base sp held 27 v x p) (hsz : ∀ m ∈ x.weights Try.prog 27, m ≤ reachBytes) :
    ∃ A n c A' n' c' h' z l r k v', v = .agg (acells (.slice A n c) (.slice A' n' c') h' z l r).toArray ∧ (z < 18446744073709551616 ∧ l.length = 32 ∧ r.length = 32 ∧ Rd W W.heap.size A n k ∧ n ≤ c ∧ n ≤ 140737488355328 ∧ Rd W W.heap.size A' n' v' ∧ n' ≤ c' ∧ n' ≤ 140737488355328) := by
  obtain ⟨fs, hu, hty⟩ : ∃ fs, Try.prog.underlying 27 = some (.struct fs) ∧ fs.toList.map (fun f => (f.type, f.offset, Try.prog.cellsOf f.type)) = [(22, 0, 1), (22, 1, 1), (3, 2, 1), (23, 3, 1), (25, 4, 32), (25, 36, 32)] := ⟨_, Try.underlying27, by kernel_rfl⟩
  obtain ⟨cs, rfl, hcs⟩ := okWide_struct hu hval
  rw [cells64] at hcs
  obtain ⟨fuel, hf⟩ := h
  obtain ⟨ys, n, _, hx, _, hyl, hg⟩ := DataW.trod_struct hu hf
  simp only [Prod.mk.injEq] at hx
  obtain ⟨rfl, rfl⟩ := hx
  obtain ⟨l, hl⟩ : ∃ l, cs = l.toArray := ⟨cs.toList, by simp⟩
  subst hl
  have hll : l.length = 68 := by simpa using hcs
  have get : ∀ (i t o k : Nat), ([(22, 0, 1), (22, 1, 1), (3, 2, 1), (23, 3, 1), (25, 4, 32), (25, 36, 32)] : List (TypeId × Nat × Nat))[i]? = some (t, o, k) → ∃ y, DataW.trod enc Try.prog W base sp held n t ((l.drop o).take k) = some y ∧ ∀ m ∈ y.1.weights Try.prog t, m ≤ reachBytes := fun i t o k hi => by
    rw [← hty, List.getElem?_map, Option.map_eq_some_iff] at hi
    obtain ⟨f, hf, e⟩ := hi
    have hf' : fs[i]? = some f := by simpa using hf
    have h1 := hg i f hf'
    simp only [Prod.mk.injEq] at e
    rw [e.2.1, e.2.2, e.1] at h1
    have hlt : i < ys.length := by rw [hyl]; exact (Array.getElem?_eq_some_iff.1 hf').1
    refine ⟨ys[i], ?_, fun m hm => hsz m ?_⟩
    · rw [List.getElem?_eq_getElem hlt] at h1
      simpa [Value.cells] using h1
    · have hin : m ∈ DataW.weightsEach Try.prog (fs.toList.map (·.type)) (ys.map (·.1)) :=
        DataW.weights_mem_each (j := i) (t := t) (d := ys[i].1) (by rw [List.getElem?_map, Array.getElem?_toList, hf', ← e.1]; rfl) (by rw [List.getElem?_map, List.getElem?_eq_getElem hlt]; rfl) m hm
      simpa [DataW.weights, hu] using hin
  obtain ⟨y0, g0, s0⟩ := get 0 22 0 1 rfl
  obtain ⟨y1, g1, s1⟩ := get 1 22 1 1 rfl
  obtain ⟨y2, g2, s2⟩ := get 2 3 2 1 rfl
  obtain ⟨y3, g3, s3⟩ := get 3 23 3 1 rfl
  obtain ⟨y4, g4, s4⟩ := get 4 25 4 32 rfl
  obtain ⟨y5, g5, s5⟩ := get 5 25 36 32 rfl
  obtain ⟨A, n0, c0, k, e0, r0, nc0, _, m0⟩ := open_bytes1 g0
  obtain ⟨A', n1, c1, v, e1, r1, nc1, _, m1⟩ := open_bytes1 g1
  obtain ⟨z2, e2, _, w2⟩ := DataW.trod_int Try.underlying3 g2
  obtain ⟨z3, e3, _, w3⟩ := DataW.trod_int Try.underlying23 g3
  obtain ⟨a, la, e4⟩ := open_sum g4
  obtain ⟨b, lb, e5⟩ := open_sum g5
  obtain ⟨n3, rfl, b3⟩ := nat_u64 w3
  refine ⟨A, n0, c0, A', n1, c1, z2, n3, a, b, k, v, ?_, b3, la, lb, r0, nc0, m0 s0, r1, nc1, m1 s1⟩
  unfold acells
  congr 2
  have sp' : ∀ (o k : Nat), l.drop o = (l.drop o).take k ++ l.drop (o + k) := fun o k => by
    rw [← List.drop_drop, List.take_append_drop]
  have d68 : l.drop (36 + 32) = [] := List.drop_eq_nil_of_le (by omega)
  have q0 := sp' 0 1
  have q1 := sp' 1 1
  have q2 := sp' 2 1
  have q3 := sp' 3 1
  have q4 := sp' 4 32
  have q5 := sp' 36 32
  rw [e0] at q0
  rw [e1] at q1
  rw [e2] at q2
  rw [e3] at q3
  rw [e4] at q4
  rw [e5, d68, List.append_nil] at q5
  rw [List.drop_zero] at q0
  rw [q0, show 0 + 1 = 1 from rfl, q1, show 1 + 1 = 2 from rfl, q2, show 2 + 1 = 3 from rfl, q3, show 3 + 1 = 4 from rfl, q4, show 4 + 32 = 36 from rfl, q5]
  rfl
end
end Go.Proofs.Ytemagoacjpilaaa
