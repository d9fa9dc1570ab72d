/-
  Small facts for the rows: slices of bytes and of Booleans among the arguments are read as such; the table starts as the program's text lays it: no condition.
  A node among the arguments is read as its bytes, numbers and sums: no condition but that it can be read.
  Calls among the arguments are read as their numbers and bytes: no condition but that they can be read.
  Small facts for the rows: numbers among the arguments: no condition.
  A sum among the arguments: its value is 32 bytes' cells.
-/
import Derived.Deep.Grids
import Derived.Stop.LaidErr
import Derived.Deep.Fields
import Derived.SizedLaws
import Derived.Deep.Slices
import Derived.OpenShut
import Derived.Test.YtolkpjbbfopmnaaDoorCY02
import Derived.Test.YtolkpjbbfopmnaaDoorCY07
import Derived.Test.YtolkpjbbfopmnaaDoorCY12
namespace Go.Proofs.YtolkpjbbfopmnaaDoor
open Go.ChangeShapes Go.WideShapes Go.ChangeAt Go.RowKit

/-- A slice of bytes among the arguments: its value, and what is read of it. -/
theorem open_bytes {H : Type} {enc : TypeId × Value → H} {W : World} {base : Nat} {sp : Nat → Bool} {held : Bool} {a : Option Addr} {len cap : Nat} {x : DataW H} {p : List MemPlace}
    (h : DataW.Trod enc Tryd.prog W base sp held 31 (.slice a len cap) x p) : ∃ bs, Rd W W.heap.size a len bs ∧ len ≤ cap ∧ len ≤ 9223372036854775807 := by
  obtain ⟨bs, h1, h2, h3⟩ := Sh.open_bytes h
  exact ⟨bs, rd_of_reads h1, h2, h3⟩
end Go.Proofs.YtolkpjbbfopmnaaDoor
namespace Go.Proofs.YtolkpjbbfopmnaaDoor
open Go.ChangeShapes Go.WideShapes Go.ChangeAt Go.RowKit Go.Deep

theorem choose_list {α : Type} (n : Nat) (P : Nat → α → Prop) (h : ∀ i, i < n → ∃ y, P i y) : ∃ l : List α, l.length = n ∧ ∀ i y, l[i]? = some y → P i y := by
  induction n with
  | zero => exact ⟨[], rfl, fun i y h => by simp at h⟩
  | succ n ih =>
    obtain ⟨l, hl, hP⟩ := ih fun i hi => h i (by omega)
    obtain ⟨y, hy⟩ := h n (by omega)
    refine ⟨l ++ [y], by simp [hl], fun i z hz => ?_⟩
    by_cases hi : i < n
    · rw [List.getElem?_append_left (by omega)] at hz
      exact hP i z hz
    · rw [List.getElem?_append_right (by omega), hl] at hz
      have h1 : i - n < 1 := (List.getElem?_eq_some_iff.1 hz).1
      obtain rfl : i = n := by omega
      rw [Nat.sub_self] at hz
      simp at hz
      subst hz
      exact hy

theorem nat_u8 {z : Int} (h : (Lit.int .u8 z).wf = true) : ∃ b : UInt8, z = b.toNat := by
  have hb := bounds_u8 h
  exact ⟨UInt8.ofNat z.toNat, by rw [UInt8.toNat_ofNat']; omega⟩
section
variable {H : Type} {enc : TypeId × Value → H} {W : World} {base b0 : Nat} {sp : Nat → Bool} {held : Bool}
/-- A slice of bytes, as one cell. -/
theorem open_bytes1 {fuel : Nat} {cs : List Value} {x : DataW H × List MemPlace} (h : DataW.trod enc Tryd.prog W base sp held fuel 31 cs = some x) :
    ∃ a len cap bs, cs = [.slice a len cap] ∧ Rd W W.heap.size a len bs ∧ len ≤ cap ∧ len ≤ 9223372036854775807 ∧ ((∀ m ∈ x.1.weights Tryd.prog 31, m ≤ reachBytes) → len ≤ 140737488355328) := by
  rcases open_ints Tryd.underlying31 Tryd.underlying5 (by kernel_rfl) h with ⟨hcs, _⟩ | ⟨x, l, c, zs, hcs, _, hl, hm, hz, hx, hcell, hwz⟩
  · exact ⟨none, 0, 0, [], hcs, Rd.nil, by omega, by omega, fun _ => by omega⟩
  · unfold maxLen at hm
    have hlz : l ≤ zs.length := by rw [hz]; split <;> omega
    refine ⟨_, l, c, _, hcs, rd_of_reads (Sh.reads_of_ints (zs := zs) (fun i hi => ⟨_, rfl, hcell i hi⟩) hlz hwz), hl, by omega, fun hsz => ?_⟩
    rw [hx] at hsz
    have h1 : (Tryd.prog.bytesOf 5) = 1 := by kernel_rfl
    have h2 := hsz ((ChangeShapes.lits (H := H) .u8 (zs.take l)).length + (ChangeShapes.lits (H := H) .u8 (zs.drop l)).length) (by
      show _ ∈ DataW.weights Tryd.prog 31 (.slice _ _)
      simp [DataW.weights, Tryd.underlying31, h1])
    have h3 : (ChangeShapes.lits (H := H) .u8 (zs.take l)).length = l := by simp [ChangeShapes.lits]; omega
    have h4 : reachBytes ≤ 140737488355328 := by decide
    omega
end
end Go.Proofs.YtolkpjbbfopmnaaDoor
namespace Go.Proofs.YtolkpjbbfopmnaaDoor
open Go.ChangeShapes Go.WideShapes Go.ChangeAt Go.RowKit Go.Deep

theorem cells29 : Tryd.prog.cellsOf 33 = 4 := by kernel_rfl
theorem spot_none {w : World} {a : Addr} {u : Value} (h : w.cell? (a.add 0) = some u) : ∃ b o, a = ⟨b, o, none⟩ := by
  obtain ⟨b, o, spot⟩ := a
  have hs : spot = none := by simpa [Addr.add] using World.cell?_spot h
  exact ⟨b, o, by rw [hs]⟩
theorem weights_all {H : Type} {P : Program} {e : TypeId} {d : DataW H} : ∀ {l : List (DataW H)}, d ∈ l → ∀ m ∈ d.weights P e, m ∈ DataW.weightsAll P e l
  | x :: r, h, m, hm => by
    show m ∈ x.weights P e ++ DataW.weightsAll P e r
    rcases List.mem_cons.1 h with rfl | h
    · exact List.mem_append.2 (.inl hm)
    · exact List.mem_append.2 (.inr (weights_all h m hm))

section
variable {H : Type} {enc : TypeId × Value → H} {W : World} {base b0 : Nat} {sp : Nat → Bool} {held : Bool}
set_option maxRecDepth 100000 in
theorem open_act {fuel : Nat} {cs : List Value} {x : DataW H × List MemPlace} (h : DataW.trod enc Tryd.prog W base sp held fuel 33 cs = some x) (hsz : ∀ m ∈ x.1.weights Tryd.prog 33, m ≤ reachBytes) :
    ∃ (a : Ac) (A1 : Option Addr) (n1 c1 : Nat) (A2 : Option Addr) (n2 c2 : Nat), cs = (a.cells A1 n1 c1 A2 n2 c2).toList ∧ n1 ≤ c1 ∧ n2 ≤ c2 ∧ n1 ≤ 140737488355328 ∧ n2 ≤ 140737488355328 ∧ Rd W W.heap.size A1 n1 a.raw ∧ Rd W W.heap.size A2 n2 a.val := by
  obtain ⟨fs, hu, hty⟩ : ∃ fs, Tryd.prog.underlying 33 = some (.struct fs) ∧ fs.toList.map (fun f => (f.type, f.offset, Tryd.prog.cellsOf f.type)) = [(5, 0, 1), (5, 1, 1), (31, 2, 1), (31, 3, 1)] := ⟨_, Tryd.underlying33, by kernel_rfl⟩
  obtain ⟨ys, n, _, hx, hll, hyl, hg⟩ := DataW.trod_struct hu h
  subst hx
  rw [cells29] at hll
  have get : ∀ (i t o k : Nat), ([(5, 0, 1), (5, 1, 1), (31, 2, 1), (31, 3, 1)] : List (TypeId × Nat × Nat))[i]? = some (t, o, k) → ∃ y, DataW.trod enc Tryd.prog W base sp held n t ((cs.drop o).take k) = some y ∧ ∀ m ∈ y.1.weights Tryd.prog t, m ≤ reachBytes := fun i t o k hi => by
    rw [← hty, List.getElem?_map, Option.map_eq_some_iff] at hi
    obtain ⟨f, hf, e⟩ := hi
    have hf' : fs[i]? = some f := by simpa using hf
    have h1 := hg i f hf'
    simp only [Prod.mk.injEq] at e
    rw [e.2.1, e.2.2, e.1] at h1
    have hlt : i < ys.length := by rw [hyl]; exact (Array.getElem?_eq_some_iff.1 hf').1
    refine ⟨ys[i], ?_, fun m hm => hsz m ?_⟩
    · rw [List.getElem?_eq_getElem hlt] at h1
      simpa [Value.cells] using h1
    · have hin : m ∈ DataW.weightsEach Tryd.prog (fs.toList.map (·.type)) (ys.map (·.1)) :=
        DataW.weights_mem_each (j := i) (t := t) (d := ys[i].1) (by rw [List.getElem?_map, Array.getElem?_toList, hf', ← e.1]; rfl) (by rw [List.getElem?_map, List.getElem?_eq_getElem hlt]; rfl) m hm
      simpa [DataW.weights, hu] using hin
  match cs, hll with
  | [v0, v1, v2, v3], _ =>
    obtain ⟨y0, g0, s0⟩ := get 0 5 0 1 rfl
    obtain ⟨y1, g1, s1⟩ := get 1 5 1 1 rfl
    obtain ⟨y2, g2, s2⟩ := get 2 31 2 1 rfl
    obtain ⟨y3, g3, s3⟩ := get 3 31 3 1 rfl
    obtain ⟨z0, e0, _, w0⟩ := DataW.trod_int Tryd.underlying5 g0
    obtain ⟨z1, e1, _, w1⟩ := DataW.trod_int Tryd.underlying5 g1
    obtain ⟨A1, n1, c1, k, e2, r2, nc2, _, m2⟩ := open_bytes1 g2
    obtain ⟨A2, n2, c2, v, e3, r3, nc3, _, m3⟩ := open_bytes1 g3
    obtain ⟨b0, rfl⟩ := nat_u8 w0
    obtain ⟨b1, rfl⟩ := nat_u8 w1
    simp at e0 e1 e2 e3
    subst e0 e1 e2 e3
    exact ⟨⟨b0, b1, k, v⟩, A1, n1, c1, A2, n2, c2, rfl, nc2, nc3, m2 s2, m3 s3, r2, r3⟩
set_option maxRecDepth 100000 in
/-- Calls among the arguments. -/
theorem open_acts {a : Option Addr} {len cap : Nat} {x : DataW H} {p : List MemPlace}
    (h : DataW.Trod enc Tryd.prog W base sp held 22 (.slice a len cap) x p) (hsz : ∀ m ∈ x.weights Tryd.prog 22, m ≤ reachBytes) : ∃ cs : List Ac, ARd W W.heap.size a len cs ∧ len ≤ 9223372036854775807 := by
  obtain ⟨fuel, hf⟩ := h
  rcases open_slice Tryd.underlying22 hf with ⟨hcs, _⟩ | ⟨ad, l, c, m, n, D, Pl, hcs, _, hl, hm, hmm, hx, hall⟩
  · simp [Value.cells] at hcs
    obtain ⟨rfl, rfl, rfl⟩ := hcs
    exact ⟨[], ⟨rfl, fun j a h => by simp at h⟩, by omega⟩
  · simp [Value.cells] at hcs
    obtain ⟨rfl, rfl, rfl⟩ := hcs
    simp only [Prod.mk.injEq] at hx
    obtain ⟨rfl, rfl⟩ := hx
    have hlm : len ≤ m := by rw [hmm]; split <;> omega
    unfold maxLen at hm
    rw [cells29] at hall
    obtain ⟨cs, hcl, hcs⟩ := choose_list len (fun i (a : Ac) => ∃ A1 n1 c1 A2 n2 c2, (∀ j v, (a.cells A1 n1 c1 A2 n2 c2).toList[j]? = some v → W.cell? ((ad.add (i * 4)).add j) = some v) ∧ n1 ≤ c1 ∧ n2 ≤ c2 ∧ n1 ≤ 140737488355328 ∧ n2 ≤ 140737488355328 ∧ Rd W W.heap.size A1 n1 a.raw ∧ Rd W W.heap.size A2 n2 a.val) (fun i hi => by
      obtain ⟨cs, hc, ht⟩ := hall i (by omega)
      obtain ⟨_, hcl, hat⟩ := World.cells?_some hc
      obtain ⟨a, A1, n1, c1, A2, n2, c2, rfl, m1, m2, m3, m4, r1, r2⟩ := open_act ht (fun q hq => hsz q (by
        show q ∈ DataW.weights Tryd.prog 22 (.slice _ _)
        simp only [DataW.weights, Tryd.underlying22]
        exact List.mem_cons_of_mem _ (List.mem_append.2 (.inl (weights_all (d := D i) (List.mem_map.2 ⟨i, List.mem_range.2 hi, rfl⟩) q hq)))))
      refine ⟨a, A1, n1, c1, A2, n2, c2, fun j v hv => ?_, m1, m2, m3, m4, r1, r2⟩
      have hj := (List.getElem?_eq_some_iff.1 hv).1
      rw [hat j (by rw [hcl] at hj; exact hj), hv])
    refine ⟨cs, ⟨hcl, fun j a ha => ?_⟩, by omega⟩
    obtain ⟨A1, n1, c1, A2, n2, c2, hc, m1, m2, m3, m4, r1, r2⟩ := hcs j a ha
    have hj := (List.getElem?_eq_some_iff.1 ha).1
    obtain ⟨z, hz⟩ : ∃ z, cs[0]? = some z := ⟨_, List.getElem?_eq_getElem (by omega)⟩
    obtain ⟨B1, q1, d1, B2, q2, d2, hc0, _⟩ := hcs 0 z hz
    have h0 := hc0 0 _ rfl
    rw [Nat.zero_mul, show (ad.add 0) = ad by simp [Addr.add]] at h0
    obtain ⟨b', o', rfl⟩ := spot_none h0
    have hcc : ∀ k v, (a.cells A1 n1 c1 A2 n2 c2).toList[k]? = some v → W.cell? ⟨b', o' + j * 4 + k, none⟩ = some v := fun k v hv => by
      have := hc k v hv
      rwa [Addr.add_mid, Addr.add_mid] at this
    exact ⟨b', o', A1, n1, c1, A2, n2, c2, rfl, World.block_lt_of_cell? W _ (hcc 0 _ rfl), hcc 0 _ rfl, hcc 1 _ rfl, hcc 2 _ rfl, hcc 3 _ rfl, m1, m2, m3, m4, r1, r2⟩
end
end Go.Proofs.YtolkpjbbfopmnaaDoor
namespace Go.Proofs.YtolkpjbbfopmnaaDoor
open Go.ChangeShapes Go.WideShapes Go.ChangeAt Go.RowKit

theorem num_u8 {z : Int} (h : (Lit.int .u8 z).wf = true) : ∃ b : UInt8, z = b.toNat := by
  have hb := bounds_u8 h
  exact ⟨UInt8.ofNat z.toNat, by rw [UInt8.toNat_ofNat']; omega⟩
end Go.Proofs.YtolkpjbbfopmnaaDoor
namespace Go.Proofs.YtolkpjbbfopmnaaDoor
open Go.ChangeShapes Go.WideShapes Go.ChangeAt Go.RowKit Go.Deep

end Go.Proofs.YtolkpjbbfopmnaaDoor
