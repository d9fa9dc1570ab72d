/-
  Calls among the arguments are read as their numbers and bytes: no condition but that they can be read.
-/
import Derived.Test.YtceillnmcccckaaDoorOpenN
import Derived.Test.YtceillnmcccckaaDoorAct
import Derived.Deep.Slices
namespace Go.Proofs.YtceillnmcccckaaDoor
open Go.ChangeShapes Go.WideShapes Go.ChangeAt Go.RowKit Go.Deep

theorem cells29 : Tryd.prog.cellsOf 29 = 4 := by kernel_rfl
theorem spot_none {w : World} {a : Addr} {u : Value} (h : w.cell? (a.add 0) = some u) : ∃ b o, a = ⟨b, o, none⟩ := by
  obtain ⟨b, o, spot⟩ := a
  have hs : spot = none := by simpa [Addr.add] using World.cell?_spot h
  exact ⟨b, o, by rw [hs]⟩
theorem weights_all {H : Type} {P : Program} {e : TypeId} {d : DataW H} : ∀ {l : List (DataW H)}, d ∈ l → ∀ m ∈ d.weights P e, m ∈ DataW.weightsAll P e l
  | x :: r, h, m, hm => by
    show m ∈ x.weights P e ++ DataW.weightsAll P e r
    rcases List.mem_cons.1 h with rfl | h
    · exact List.mem_append.2 (.inl hm)
    · exact List.mem_append.2 (.inr (weights_all h m hm))

section
variable {H : Type} {enc : TypeId × Value → H} {W : World} {base b0 : Nat} {sp : Nat → Bool} {held : Bool}
set_option maxRecDepth 100000 in
theorem open_act {fuel : Nat} {cs : List Value} {x : DataW H × List MemPlace} (h : DataW.trod enc Tryd.prog W base sp held fuel 29 cs = some x) (hsz : ∀ m ∈ x.1.weights Tryd.prog 29, m ≤ reachBytes) :
    ∃ (a : Ac) (A1 : Option Addr) (n1 c1 : Nat) (A2 : Option Addr) (n2 c2 : Nat), cs = (a.cells A1 n1 c1 A2 n2 c2).toList ∧ n1 ≤ c1 ∧ n2 ≤ c2 ∧ n1 ≤ 140737488355328 ∧ n2 ≤ 140737488355328 ∧ Rd W W.heap.size A1 n1 a.raw ∧ Rd W W.heap.size A2 n2 a.val := by
  obtain ⟨fs, hu, hty⟩ : ∃ fs, Tryd.prog.underlying 29 = some (.struct fs) ∧ fs.toList.map (fun f => (f.type, f.offset, Tryd.prog.cellsOf f.type)) = [(5, 0, 1), (5, 1, 1), (27, 2, 1), (27, 3, 1)] := ⟨_, Tryd.underlying29, by kernel_rfl⟩
  obtain ⟨ys, n, _, hx, hll, hyl, hg⟩ := DataW.trod_struct hu h
  subst hx
  rw [cells29] at hll
  have get : ∀ (i t o k : Nat), ([(5, 0, 1), (5, 1, 1), (27, 2, 1), (27, 3, 1)] : List (TypeId × Nat × Nat))[i]? = some (t, o, k) → ∃ y, DataW.trod enc Tryd.prog W base sp held n t ((cs.drop o).take k) = some y ∧ ∀ m ∈ y.1.weights Tryd.prog t, m ≤ reachBytes := fun i t o k hi => by
    rw [← hty, List.getElem?_map, Option.map_eq_some_iff] at hi
    obtain ⟨f, hf, e⟩ := hi
    have hf' : fs[i]? = some f := by simpa using hf
    have h1 := hg i f hf'
    simp only [Prod.mk.injEq] at e
    rw [e.2.1, e.2.2, e.1] at h1
    have hlt : i < ys.length := by rw [hyl]; exact (Array.getElem?_eq_some_iff.1 hf').1
    refine ⟨ys[i], ?_, fun m hm => hsz m ?_⟩
    · rw [List.getElem?_eq_getElem hlt] at h1
      simpa [Value.cells] using h1
    · have hin : m ∈ DataW.weightsEach Tryd.prog (fs.toList.map (·.type)) (ys.map (·.1)) :=
        DataW.weights_mem_each (j := i) (t := t) (d := ys[i].1) (by rw [List.getElem?_map, Array.getElem?_toList, hf', ← e.1]; rfl) (by rw [List.getElem?_map, List.getElem?_eq_getElem hlt]; rfl) m hm
      simpa [DataW.weights, hu] using hin
  match cs, hll with
  | [v0, v1, v2, v3], _ =>
    obtain ⟨y0, g0, s0⟩ := get 0 5 0 1 rfl
    obtain ⟨y1, g1, s1⟩ := get 1 5 1 1 rfl
    obtain ⟨y2, g2, s2⟩ := get 2 27 2 1 rfl
    obtain ⟨y3, g3, s3⟩ := get 3 27 3 1 rfl
    obtain ⟨z0, e0, _, w0⟩ := DataW.trod_int Tryd.underlying5 g0
    obtain ⟨z1, e1, _, w1⟩ := DataW.trod_int Tryd.underlying5 g1
    obtain ⟨A1, n1, c1, k, e2, r2, nc2, _, m2⟩ := open_bytes1 g2
    obtain ⟨A2, n2, c2, v, e3, r3, nc3, _, m3⟩ := open_bytes1 g3
    obtain ⟨b0, rfl⟩ := nat_u8 w0
    obtain ⟨b1, rfl⟩ := nat_u8 w1
    simp at e0 e1 e2 e3
    subst e0 e1 e2 e3
    exact ⟨⟨b0, b1, k, v⟩, A1, n1, c1, A2, n2, c2, rfl, nc2, nc3, m2 s2, m3 s3, r2, r3⟩
set_option maxRecDepth 100000 in
/-- Calls among the arguments. -/
theorem open_acts {a : Option Addr} {len cap : Nat} {x : DataW H} {p : List MemPlace}
    (h : DataW.Trod enc Tryd.prog W base sp held 22 (.slice a len cap) x p) (hsz : ∀ m ∈ x.weights Tryd.prog 22, m ≤ reachBytes) : ∃ cs : List Ac, ARd W W.heap.size a len cs ∧ len ≤ 9223372036854775807 := by
  obtain ⟨fuel, hf⟩ := h
  rcases open_slice Tryd.underlying22 hf with ⟨hcs, _⟩ | ⟨ad, l, c, m, n, D, Pl, hcs, _, hl, hm, hmm, hx, hall⟩
  · simp [Value.cells] at hcs
    obtain ⟨rfl, rfl, rfl⟩ := hcs
    exact ⟨[], ⟨rfl, fun j a h => by simp at h⟩, by omega⟩
  · simp [Value.cells] at hcs
    obtain ⟨rfl, rfl, rfl⟩ := hcs
    simp only [Prod.mk.injEq] at hx
    obtain ⟨rfl, rfl⟩ := hx
    have hlm : len ≤ m := by rw [hmm]; split <;> omega
    unfold maxLen at hm
    rw [cells29] at hall
    obtain ⟨cs, hcl, hcs⟩ := choose_list len (fun i (a : Ac) => ∃ A1 n1 c1 A2 n2 c2, (∀ j v, (a.cells A1 n1 c1 A2 n2 c2).toList[j]? = some v → W.cell? ((ad.add (i * 4)).add j) = some v) ∧ n1 ≤ c1 ∧ n2 ≤ c2 ∧ n1 ≤ 140737488355328 ∧ n2 ≤ 140737488355328 ∧ Rd W W.heap.size A1 n1 a.raw ∧ Rd W W.heap.size A2 n2 a.val) (fun i hi => by
      obtain ⟨cs, hc, ht⟩ := hall i (by omega)
      obtain ⟨_, hcl, hat⟩ := World.cells?_some hc
      obtain ⟨a, A1, n1, c1, A2, n2, c2, rfl, m1, m2, m3, m4, r1, r2⟩ := open_act ht (fun q hq => hsz q (by
        show q ∈ DataW.weights Tryd.prog 22 (.slice _ _)
        simp only [DataW.weights, Tryd.underlying22]
        exact List.mem_cons_of_mem _ (List.mem_append.2 (.inl (weights_all (d := D i) (List.mem_map.2 ⟨i, List.mem_range.2 hi, rfl⟩) q hq)))))
      refine ⟨a, A1, n1, c1, A2, n2, c2, fun j v hv => ?_, m1, m2, m3, m4, r1, r2⟩
      have hj := (List.getElem?_eq_some_iff.1 hv).1
      rw [hat j (by rw [hcl] at hj; exact hj), hv])
    refine ⟨cs, ⟨hcl, fun j a ha => ?_⟩, by omega⟩
    obtain ⟨A1, n1, c1, A2, n2, c2, hc, m1, m2, m3, m4, r1, r2⟩ := hcs j a ha
    have hj := (List.getElem?_eq_some_iff.1 ha).1
    obtain ⟨z, hz⟩ : ∃ z, cs[0]? = some z := ⟨_, List.getElem?_eq_getElem (by omega)⟩
    obtain ⟨B1, q1, d1, B2, q2, d2, hc0, _⟩ := hcs 0 z hz
    have h0 := hc0 0 _ rfl
    rw [Nat.zero_mul, show (ad.add 0) = ad by simp [Addr.add]] at h0
    obtain ⟨b', o', rfl⟩ := spot_none h0
    have hcc : ∀ k v, (a.cells A1 n1 c1 A2 n2 c2).toList[k]? = some v → W.cell? ⟨b', o' + j * 4 + k, none⟩ = some v := fun k v hv => by
      have := hc k v hv
      rwa [Addr.add_mid, Addr.add_mid] at this
    exact ⟨b', o', A1, n1, c1, A2, n2, c2, rfl, World.block_lt_of_cell? W _ (hcc 0 _ rfl), hcc 0 _ rfl, hcc 1 _ rfl, hcc 2 _ rfl, hcc 3 _ rfl, m1, m2, m3, m4, r1, r2⟩
end
end Go.Proofs.YtceillnmcccckaaDoor
