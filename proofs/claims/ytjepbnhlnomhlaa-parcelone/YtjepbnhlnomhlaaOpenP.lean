/-
  A packet among the arguments is read as its numbers and texts: no condition but that it can be read, and takes no more than memory can be.
-/
import Derived.Test.YtjepbnhlnomhlaaOpen
import Derived.Test.YtjepbnhlnomhlaaPacket
import Derived.Deep.Fields
import Derived.SizedLaws
namespace Go.Proofs.Ytjepbnhlnomhlaa
open Go.ChangeShapes Go.WideShapes Go.ChangeAt Go.RowKit Go.Deep

theorem fields24 : ∃ fs, Try.prog.underlying 24 = some (.struct fs) ∧ oneCellFields Try.prog fs = true ∧ fs.toList.map (·.type) = [3, 22, 22, 9, 22, 9, 9] :=
  ⟨_, Try.underlying24, by kernel_rfl, by kernel_rfl⟩
theorem cells24 : Try.prog.cellsOf 24 = 7 := by kernel_rfl
theorem str_list (s : ByteArray) : Value.string s = .string ⟨s.data.toList.toArray⟩ := by simp
theorem reach_le {n : Nat} (h : n ≤ reachBytes) : n ≤ 140737488355328 := by
  have := reachBytes_lt
  omega

theorem open_packet {H : Type} {enc : TypeId × Value → H} {W : World} {base b0 : Nat} {sp : Nat → Bool} {held : Bool} {v : Value} {x : DataW H} {p : List MemPlace} (hval : Value.okWide Try.prog W .any b0 24 v)
    (h : DataW.Trod enc Try.prog W base sp held 24 v x p) (hsz : ∀ n ∈ x.weights Try.prog 24, n ≤ reachBytes) :
    ∃ (z : Int) (seq tm : Nat) (den : List UInt8) (amt : Nat) (frm dst : List UInt8), v = .agg (pcells z seq tm den amt frm dst) ∧ (Lit.int .i64 z).wf = true ∧ seq < 18446744073709551616 ∧ tm < 18446744073709551616 ∧ amt < 18446744073709551616 ∧
      den.length ≤ 140737488355328 ∧ frm.length ≤ 140737488355328 ∧ dst.length ≤ 140737488355328 := by
  obtain ⟨fs, hu, hone, hty⟩ := fields24
  have hone' := hone_of hone
  obtain ⟨cs, rfl, hcs⟩ := okWide_struct hu hval
  rw [cells24] at hcs
  obtain ⟨fuel, hf⟩ := h
  obtain ⟨ys, n, _, hx, _, hyl, hg⟩ := DataW.trod_struct hu hf
  simp only [Prod.mk.injEq] at hx
  obtain ⟨rfl, rfl⟩ := hx
  have hfl : fs.size = 7 := by
    have := congrArg List.length hty
    simpa using this
  have hft : ∀ (i : Nat) (t : TypeId), ([3, 22, 22, 9, 22, 9, 9] : List TypeId)[i]? = some t → ∃ f : Field, fs[i]? = some f ∧ f.type = t := fun i t hi => by
    rw [← hty, List.getElem?_map, Option.map_eq_some_iff] at hi
    obtain ⟨f, hf, e⟩ := hi
    exact ⟨f, by simpa using hf, e⟩
  obtain ⟨l, hl⟩ : ∃ l, cs = l.toArray := ⟨cs.toList, by simp⟩
  subst hl
  have hll : l.length = 7 := by simpa using hcs
  have get : ∀ (i : Nat) (t : TypeId), ([3, 22, 22, 9, 22, 9, 9] : List TypeId)[i]? = some t → ∃ y, ys[i]? = some y ∧ DataW.trod enc Try.prog W base sp held n t ((l.drop i).take 1) = some y := fun i t hi => by
    obtain ⟨f, hf, e⟩ := hft i t hi
    have h1 := hg i f hf
    rw [(hone' i f hf).1, (hone' i f hf).2, e] at h1
    have hlt : i < ys.length := by rw [hyl]; exact (Array.getElem?_eq_some_iff.1 hf).1
    refine ⟨ys[i], List.getElem?_eq_getElem hlt, ?_⟩
    rw [List.getElem?_eq_getElem hlt] at h1
    simpa [Value.cells] using h1
  have wt : ∀ (i : Nat) (bytes : List UInt8), (∃ y, ys[i]? = some y ∧ y.1 = .lit (.string bytes)) → ∀ t : TypeId, ([3, 22, 22, 9, 22, 9, 9] : List TypeId)[i]? = some t → bytes.length ≤ 140737488355328 := fun i bytes ⟨y, hy, e⟩ t ht => by
    refine reach_le (hsz _ ?_)
    have hin : bytes.length ∈ DataW.weightsEach Try.prog (fs.toList.map (·.type)) (ys.map (·.1)) :=
      DataW.weights_mem_each (j := i) (t := t) (d := .lit (.string bytes)) (by rw [hty]; exact ht) (by rw [List.getElem?_map, hy, ← e]; rfl) _ (by simp [DataW.weights])
    simpa [DataW.weights, hu] using hin
  match l, hll with
  | [v0, v1, v2, v3, v4, v5, v6], _ =>
    obtain ⟨y0, _, g0⟩ := get 0 3 rfl
    obtain ⟨y1, _, g1⟩ := get 1 22 rfl
    obtain ⟨y2, _, g2⟩ := get 2 22 rfl
    obtain ⟨y3, k3, g3⟩ := get 3 9 rfl
    obtain ⟨y4, _, g4⟩ := get 4 22 rfl
    obtain ⟨y5, k5, g5⟩ := get 5 9 rfl
    obtain ⟨y6, k6, g6⟩ := get 6 9 rfl
    obtain ⟨z0, e0, _, w0⟩ := DataW.trod_int Try.underlying3 g0
    obtain ⟨z1, e1, _, w1⟩ := DataW.trod_int Try.underlying22 g1
    obtain ⟨z2, e2, _, w2⟩ := DataW.trod_int Try.underlying22 g2
    obtain ⟨s3, e3, x3, _⟩ := DataW.trod_string Try.underlying9 g3
    obtain ⟨z4, e4, _, w4⟩ := DataW.trod_int Try.underlying22 g4
    obtain ⟨s5, e5, x5, _⟩ := DataW.trod_string Try.underlying9 g5
    obtain ⟨s6, e6, x6, _⟩ := DataW.trod_string Try.underlying9 g6
    simp at e0 e1 e2 e3 e4 e5 e6
    subst e0 e1 e2 e3 e4 e5 e6
    obtain ⟨n1, rfl, b1⟩ := nat_u64 w1
    obtain ⟨n2, rfl, b2⟩ := nat_u64 w2
    obtain ⟨n4, rfl, b4⟩ := nat_u64 w4
    refine ⟨z0, n1, n2, s3.data.toList, n4, s5.data.toList, s6.data.toList, ?_, w0, b1, b2, b4, wt 3 _ ⟨y3, k3, by rw [x3]⟩ 9 rfl, wt 5 _ ⟨y5, k5, by rw [x5]⟩ 9 rfl, wt 6 _ ⟨y6, k6, by rw [x6]⟩ 9 rfl⟩
    unfold pcells
    rw [← str_list, ← str_list, ← str_list]
end Go.Proofs.Ytjepbnhlnomhlaa
