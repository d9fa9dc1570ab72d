/-
  Small facts for the rows: slices of bytes and of Booleans among the arguments are read as such; the table starts as the program's text lays it: no condition.
  A node among the arguments is read as its bytes, numbers and sums: no condition but that it can be read.
  Calls among the arguments are read as their numbers and bytes: no condition but that they can be read.
  Small facts for the rows: numbers among the arguments: no condition.
-/
import Derived.Test.YtolkpjbbfopmnaaDoorShaOpen
import Derived.Test.YtolkpjbbfopmnaaDoorNodeA
import Derived.Deep.Grids
import Derived.Stop.LaidErr
import Derived.Deep.Fields
import Derived.SizedLaws
import Derived.Test.YtolkpjbbfopmnaaDoorPairsA
import Derived.Deep.Slices
import Derived.OpenShut
namespace Go.Proofs.YtolkpjbbfopmnaaDoor
open Go.ChangeShapes Go.WideShapes Go.ChangeAt Go.RowKit

/-- A slice of bytes among the arguments: its value, and what is read of it. -/
theorem open_bytes {H : Type} {enc : TypeId × Value → H} {W : World} {base : Nat} {sp : Nat → Bool} {held : Bool} {a : Option Addr} {len cap : Nat} {x : DataW H} {p : List MemPlace}
    (h : DataW.Trod enc Tryd.prog W base sp held 31 (.slice a len cap) x p) : ∃ bs, Rd W W.heap.size a len bs ∧ len ≤ cap ∧ len ≤ 9223372036854775807 := by
  obtain ⟨bs, h1, h2, h3⟩ := Sh.open_bytes h
  exact ⟨bs, rd_of_reads h1, h2, h3⟩
theorem rd_of_bools {w : World} {a : Addr} {len : Nat} {B : Nat → Bool} (h : ∀ i, i < len → w.cell? (a.add i) = some (.bool (B i))) : RdV w w.heap.size 1 (some a) len (((List.range len).map B).map Value.bool) := by
  refine ⟨by simp, fun hn => ?_⟩
  obtain ⟨b, o, pth⟩ := a
  have h0 := h 0 hn
  cases pth with
  | some q =>
    simp [Addr.add, World.cell?] at h0
    split at h0 <;> cases h0
  | none =>
    refine ⟨b, o, rfl, World.block_lt_of_cell? w _ h0, fun j u hu => ?_⟩
    simp only [List.map_map, List.getElem?_map, Option.map_eq_some_iff] at hu
    obtain ⟨i, hi, rfl⟩ := hu
    have hj := (List.getElem?_eq_some_iff.1 hi).1
    rw [List.length_range] at hj
    rw [List.getElem?_range hj] at hi
    injection hi with hi
    subst hi
    have := h j hj
    rwa [Addr.add_mid] at this
/-- A slice of Booleans among the arguments. -/
theorem open_way {H : Type} {enc : TypeId × Value → H} {W : World} {base : Nat} {held : Bool} {a : Option Addr} {len cap : Nat} {x : DataW H} {p : List MemPlace}
    (h : DataW.Trod enc Tryd.prog W base (fun _ => true) held 123 (.slice a len cap) x p) : ∃ bs : List Bool, RdV W W.heap.size 1 a len (bs.map Value.bool) ∧ len ≤ 9223372036854775807 := by
  obtain ⟨fuel, hf⟩ := h
  rcases Go.Deep.open_bools Tryd.underlying123 Tryd.underlying4 (by kernel_rfl) hf with ⟨hcs, _⟩ | ⟨x, l, c, B, hcs, _, hl, hm, _, hcell⟩
  · simp [Value.cells] at hcs
    obtain ⟨rfl, rfl, rfl⟩ := hcs
    exact ⟨[], RdV.nil, by omega⟩
  · simp [Value.cells] at hcs
    obtain ⟨rfl, rfl, rfl⟩ := hcs
    unfold maxLen at hm
    exact ⟨_, rd_of_bools (fun i hi => hcell i (by omega)), by omega⟩
end Go.Proofs.YtolkpjbbfopmnaaDoor
namespace Go.Proofs.YtolkpjbbfopmnaaDoor
open Go.ChangeShapes Go.WideShapes Go.ChangeAt Go.RowKit Go.Deep

theorem choose_list {α : Type} (n : Nat) (P : Nat → α → Prop) (h : ∀ i, i < n → ∃ y, P i y) : ∃ l : List α, l.length = n ∧ ∀ i y, l[i]? = some y → P i y := by
  induction n with
  | zero => exact ⟨[], rfl, fun i y h => by simp at h⟩
  | succ n ih =>
    obtain ⟨l, hl, hP⟩ := ih fun i hi => h i (by omega)
    obtain ⟨y, hy⟩ := h n (by omega)
    refine ⟨l ++ [y], by simp [hl], fun i z hz => ?_⟩
    by_cases hi : i < n
    · rw [List.getElem?_append_left (by omega)] at hz
      exact hP i z hz
    · rw [List.getElem?_append_right (by omega), hl] at hz
      have h1 : i - n < 1 := (List.getElem?_eq_some_iff.1 hz).1
      obtain rfl : i = n := by omega
      rw [Nat.sub_self] at hz
      simp at hz
      subst hz
      exact hy

theorem nat_u64 {z : Int} (h : (Lit.int .u64 z).wf = true) : ∃ n : Nat, z = n ∧ n < 18446744073709551616 := by
  have h' := bounds_u64 h
  exact ⟨z.toNat, by omega, by omega⟩
theorem nat_u8 {z : Int} (h : (Lit.int .u8 z).wf = true) : ∃ b : UInt8, z = b.toNat := by
  have hb := bounds_u8 h
  exact ⟨UInt8.ofNat z.toNat, by rw [UInt8.toNat_ofNat']; omega⟩
theorem cells5 : Tryd.prog.cellsOf 5 = 1 := by kernel_rfl
theorem cells49 : Tryd.prog.cellsOf 29 = 32 := by kernel_rfl
theorem cells64 : Tryd.prog.cellsOf 47 = 68 := by kernel_rfl

section
variable {H : Type} {enc : TypeId × Value → H} {W : World} {base b0 : Nat} {sp : Nat → Bool} {held : Bool}
/-- A slice of bytes, as one cell. -/
theorem open_bytes1 {fuel : Nat} {cs : List Value} {x : DataW H × List MemPlace} (h : DataW.trod enc Tryd.prog W base sp held fuel 31 cs = some x) :
    ∃ a len cap bs, cs = [.slice a len cap] ∧ Rd W W.heap.size a len bs ∧ len ≤ cap ∧ len ≤ 9223372036854775807 ∧ ((∀ m ∈ x.1.weights Tryd.prog 31, m ≤ reachBytes) → len ≤ 140737488355328) := by
  rcases open_ints Tryd.underlying31 Tryd.underlying5 (by kernel_rfl) h with ⟨hcs, _⟩ | ⟨x, l, c, zs, hcs, _, hl, hm, hz, hx, hcell, hwz⟩
  · exact ⟨none, 0, 0, [], hcs, Rd.nil, by omega, by omega, fun _ => by omega⟩
  · unfold maxLen at hm
    have hlz : l ≤ zs.length := by rw [hz]; split <;> omega
    refine ⟨_, l, c, _, hcs, rd_of_reads (Sh.reads_of_ints (zs := zs) (fun i hi => ⟨_, rfl, hcell i hi⟩) hlz hwz), hl, by omega, fun hsz => ?_⟩
    rw [hx] at hsz
    have h1 : (Tryd.prog.bytesOf 5) = 1 := by kernel_rfl
    have h2 := hsz ((ChangeShapes.lits (H := H) .u8 (zs.take l)).length + (ChangeShapes.lits (H := H) .u8 (zs.drop l)).length) (by
      show _ ∈ DataW.weights Tryd.prog 31 (.slice _ _)
      simp [DataW.weights, Tryd.underlying31, h1])
    have h3 : (ChangeShapes.lits (H := H) .u8 (zs.take l)).length = l := by simp [ChangeShapes.lits]; omega
    have h4 : reachBytes ≤ 140737488355328 := by decide
    omega
/-- A sum: 32 bytes. -/
theorem open_sum {fuel : Nat} {cs : List Value} {x : DataW H × List MemPlace} (h : DataW.trod enc Tryd.prog W base sp held fuel 29 cs = some x) : ∃ bs : List UInt8, bs.length = 32 ∧ cs = bs.map V8 := by
  obtain ⟨xs, m, _, _, hl, hxl, hg⟩ := DataW.trod_array Tryd.underlying29 h
  rw [cells49] at hl
  rw [cells5] at hg
  obtain ⟨bs, hbl, hb⟩ := choose_list 32 (fun i (b : UInt8) => cs[i]? = some (V8 b)) (fun i hi => by
    have h1 := hg i hi
    rw [Nat.mul_one, List.getElem?_eq_getElem (by omega), take1_drop cs i (.int .u8 0) (by omega)] at h1
    obtain ⟨z, hz, _, hwf⟩ := DataW.trod_int Tryd.underlying5 h1
    injection hz with hz _
    obtain ⟨b, rfl⟩ := nat_u8 hwf
    refine ⟨b, ?_⟩
    rw [List.getElem?_eq_getElem (by omega)]
    rw [List.getD_eq_getElem?_getD, List.getElem?_eq_getElem (by omega)] at hz
    exact congrArg some hz)
  refine ⟨bs, hbl, List.ext_getElem? fun i => ?_⟩
  by_cases hi : i < 32
  · have h1 : bs[i]? = some (bs[i]'(by omega)) := List.getElem?_eq_getElem _
    rw [hb i _ h1, List.getElem?_map, h1]
    rfl
  · rw [List.getElem?_eq_none (by omega), List.getElem?_eq_none (by rw [List.length_map]; omega)]

set_option maxRecDepth 100000 in
theorem open_node {v : Value} {x : DataW H} {p : List MemPlace} (hval : Value.okWide Tryd.prog W .any b0 47 v) (h : DataW.Trod enc Tryd.prog W base sp held 47 v x p) (hsz : ∀ m ∈ x.weights Tryd.prog 47, m ≤ reachBytes) :
    ∃ A n c A' n' c' h' z l r k v', v = .agg (acells (.slice A n c) (.slice A' n' c') h' z l r).toArray ∧ (z < 18446744073709551616 ∧ l.length = 32 ∧ r.length = 32 ∧ Rd W W.heap.size A n k ∧ n ≤ c ∧ n ≤ 140737488355328 ∧ Rd W W.heap.size A' n' v' ∧ n' ≤ c' ∧ n' ≤ 140737488355328) := by
  obtain ⟨fs, hu, hty⟩ : ∃ fs, Tryd.prog.underlying 47 = some (.struct fs) ∧ fs.toList.map (fun f => (f.type, f.offset, Tryd.prog.cellsOf f.type)) = [(31, 0, 1), (31, 1, 1), (3, 2, 1), (45, 3, 1), (29, 4, 32), (29, 36, 32)] := ⟨_, Tryd.underlying47, by kernel_rfl⟩
  obtain ⟨cs, rfl, hcs⟩ := okWide_struct hu hval
  rw [cells64] at hcs
  obtain ⟨fuel, hf⟩ := h
  obtain ⟨ys, n, _, hx, _, hyl, hg⟩ := DataW.trod_struct hu hf
  simp only [Prod.mk.injEq] at hx
  obtain ⟨rfl, rfl⟩ := hx
  obtain ⟨l, hl⟩ : ∃ l, cs = l.toArray := ⟨cs.toList, by simp⟩
  subst hl
  have hll : l.length = 68 := by simpa using hcs
  have get : ∀ (i t o k : Nat), ([(31, 0, 1), (31, 1, 1), (3, 2, 1), (45, 3, 1), (29, 4, 32), (29, 36, 32)] : List (TypeId × Nat × Nat))[i]? = some (t, o, k) → ∃ y, DataW.trod enc Tryd.prog W base sp held n t ((l.drop o).take k) = some y ∧ ∀ m ∈ y.1.weights Tryd.prog t, m ≤ reachBytes := fun i t o k hi => by
    rw [← hty, List.getElem?_map, Option.map_eq_some_iff] at hi
    obtain ⟨f, hf, e⟩ := hi
    have hf' : fs[i]? = some f := by simpa using hf
    have h1 := hg i f hf'
    simp only [Prod.mk.injEq] at e
    rw [e.2.1, e.2.2, e.1] at h1
    have hlt : i < ys.length := by rw [hyl]; exact (Array.getElem?_eq_some_iff.1 hf').1
    refine ⟨ys[i], ?_, fun m hm => hsz m ?_⟩
    · rw [List.getElem?_eq_getElem hlt] at h1
      simpa [Value.cells] using h1
    · have hin : m ∈ DataW.weightsEach Tryd.prog (fs.toList.map (·.type)) (ys.map (·.1)) :=
        DataW.weights_mem_each (j := i) (t := t) (d := ys[i].1) (by rw [List.getElem?_map, Array.getElem?_toList, hf', ← e.1]; rfl) (by rw [List.getElem?_map, List.getElem?_eq_getElem hlt]; rfl) m hm
      simpa [DataW.weights, hu] using hin
  obtain ⟨y0, g0, s0⟩ := get 0 31 0 1 rfl
  obtain ⟨y1, g1, s1⟩ := get 1 31 1 1 rfl
  obtain ⟨y2, g2, s2⟩ := get 2 3 2 1 rfl
  obtain ⟨y3, g3, s3⟩ := get 3 45 3 1 rfl
  obtain ⟨y4, g4, s4⟩ := get 4 29 4 32 rfl
  obtain ⟨y5, g5, s5⟩ := get 5 29 36 32 rfl
  obtain ⟨A, n0, c0, k, e0, r0, nc0, _, m0⟩ := open_bytes1 g0
  obtain ⟨A', n1, c1, v, e1, r1, nc1, _, m1⟩ := open_bytes1 g1
  obtain ⟨z2, e2, _, w2⟩ := DataW.trod_int Tryd.underlying3 g2
  obtain ⟨z3, e3, _, w3⟩ := DataW.trod_int Tryd.underlying45 g3
  obtain ⟨a, la, e4⟩ := open_sum g4
  obtain ⟨b, lb, e5⟩ := open_sum g5
  obtain ⟨n3, rfl, b3⟩ := nat_u64 w3
  refine ⟨A, n0, c0, A', n1, c1, z2, n3, a, b, k, v, ?_, b3, la, lb, r0, nc0, m0 s0, r1, nc1, m1 s1⟩
  unfold acells
  congr 2
  have sp' : ∀ (o k : Nat), l.drop o = (l.drop o).take k ++ l.drop (o + k) := fun o k => by
    rw [← List.drop_drop, List.take_append_drop]
  have d68 : l.drop (36 + 32) = [] := List.drop_eq_nil_of_le (by omega)
  have q0 := sp' 0 1
  have q1 := sp' 1 1
  have q2 := sp' 2 1
  have q3 := sp' 3 1
  have q4 := sp' 4 32
  have q5 := sp' 36 32
  rw [e0] at q0
  rw [e1] at q1
  rw [e2] at q2
  rw [e3] at q3
  rw [e4] at q4
  rw [e5, d68, List.append_nil] at q5
  rw [List.drop_zero] at q0
  rw [q0, show 0 + 1 = 1 from rfl, q1, show 1 + 1 = 2 from rfl, q2, show 2 + 1 = 3 from rfl, q3, show 3 + 1 = 4 from rfl, q4, show 4 + 32 = 36 from rfl, q5]
  rfl
end
end Go.Proofs.YtolkpjbbfopmnaaDoor
namespace Go.Proofs.YtolkpjbbfopmnaaDoor
open Go.ChangeShapes Go.WideShapes Go.ChangeAt Go.RowKit Go.Deep

theorem cells29 : Tryd.prog.cellsOf 33 = 4 := by kernel_rfl
theorem spot_none {w : World} {a : Addr} {u : Value} (h : w.cell? (a.add 0) = some u) : ∃ b o, a = ⟨b, o, none⟩ := by
  obtain ⟨b, o, spot⟩ := a
  have hs : spot = none := by simpa [Addr.add] using World.cell?_spot h
  exact ⟨b, o, by rw [hs]⟩
theorem weights_all {H : Type} {P : Program} {e : TypeId} {d : DataW H} : ∀ {l : List (DataW H)}, d ∈ l → ∀ m ∈ d.weights P e, m ∈ DataW.weightsAll P e l
  | x :: r, h, m, hm => by
    show m ∈ x.weights P e ++ DataW.weightsAll P e r
    rcases List.mem_cons.1 h with rfl | h
    · exact List.mem_append.2 (.inl hm)
    · exact List.mem_append.2 (.inr (weights_all h m hm))

section
variable {H : Type} {enc : TypeId × Value → H} {W : World} {base b0 : Nat} {sp : Nat → Bool} {held : Bool}
set_option maxRecDepth 100000 in
theorem open_act {fuel : Nat} {cs : List Value} {x : DataW H × List MemPlace} (h : DataW.trod enc Tryd.prog W base sp held fuel 33 cs = some x) (hsz : ∀ m ∈ x.1.weights Tryd.prog 33, m ≤ reachBytes) :
    ∃ (a : Ac) (A1 : Option Addr) (n1 c1 : Nat) (A2 : Option Addr) (n2 c2 : Nat), cs = (a.cells A1 n1 c1 A2 n2 c2).toList ∧ n1 ≤ c1 ∧ n2 ≤ c2 ∧ n1 ≤ 140737488355328 ∧ n2 ≤ 140737488355328 ∧ Rd W W.heap.size A1 n1 a.raw ∧ Rd W W.heap.size A2 n2 a.val := by
  obtain ⟨fs, hu, hty⟩ : ∃ fs, Tryd.prog.underlying 33 = some (.struct fs) ∧ fs.toList.map (fun f => (f.type, f.offset, Tryd.prog.cellsOf f.type)) = [(5, 0, 1), (5, 1, 1), (31, 2, 1), (31, 3, 1)] := ⟨_, Tryd.underlying33, by kernel_rfl⟩
  obtain ⟨ys, n, _, hx, hll, hyl, hg⟩ := DataW.trod_struct hu h
  subst hx
  rw [cells29] at hll
  have get : ∀ (i t o k : Nat), ([(5, 0, 1), (5, 1, 1), (31, 2, 1), (31, 3, 1)] : List (TypeId × Nat × Nat))[i]? = some (t, o, k) → ∃ y, DataW.trod enc Tryd.prog W base sp held n t ((cs.drop o).take k) = some y ∧ ∀ m ∈ y.1.weights Tryd.prog t, m ≤ reachBytes := fun i t o k hi => by
    rw [← hty, List.getElem?_map, Option.map_eq_some_iff] at hi
    obtain ⟨f, hf, e⟩ := hi
    have hf' : fs[i]? = some f := by simpa using hf
    have h1 := hg i f hf'
    simp only [Prod.mk.injEq] at e
    rw [e.2.1, e.2.2, e.1] at h1
    have hlt : i < ys.length := by rw [hyl]; exact (Array.getElem?_eq_some_iff.1 hf').1
    refine ⟨ys[i], ?_, fun m hm => hsz m ?_⟩
    · rw [List.getElem?_eq_getElem hlt] at h1
      simpa [Value.cells] using h1
    · have hin : m ∈ DataW.weightsEach Tryd.prog (fs.toList.map (·.type)) (ys.map (·.1)) :=
        DataW.weights_mem_each (j := i) (t := t) (d := ys[i].1) (by rw [List.getElem?_map, Array.getElem?_toList, hf', ← e.1]; rfl) (by rw [List.getElem?_map, List.getElem?_eq_getElem hlt]; rfl) m hm
      simpa [DataW.weights, hu] using hin
  match cs, hll with
  | [v0, v1, v2, v3], _ =>
    obtain ⟨y0, g0, s0⟩ := get 0 5 0 1 rfl
    obtain ⟨y1, g1, s1⟩ := get 1 5 1 1 rfl
    obtain ⟨y2, g2, s2⟩ := get 2 31 2 1 rfl
    obtain ⟨y3, g3, s3⟩ := get 3 31 3 1 rfl
    obtain ⟨z0, e0, _, w0⟩ := DataW.trod_int Tryd.underlying5 g0
    obtain ⟨z1, e1, _, w1⟩ := DataW.trod_int Tryd.underlying5 g1
    obtain ⟨A1, n1, c1, k, e2, r2, nc2, _, m2⟩ := open_bytes1 g2
    obtain ⟨A2, n2, c2, v, e3, r3, nc3, _, m3⟩ := open_bytes1 g3
    obtain ⟨b0, rfl⟩ := nat_u8 w0
    obtain ⟨b1, rfl⟩ := nat_u8 w1
    simp at e0 e1 e2 e3
    subst e0 e1 e2 e3
    exact ⟨⟨b0, b1, k, v⟩, A1, n1, c1, A2, n2, c2, rfl, nc2, nc3, m2 s2, m3 s3, r2, r3⟩
set_option maxRecDepth 100000 in
/-- Calls among the arguments. -/
theorem open_acts {a : Option Addr} {len cap : Nat} {x : DataW H} {p : List MemPlace}
    (h : DataW.Trod enc Tryd.prog W base sp held 22 (.slice a len cap) x p) (hsz : ∀ m ∈ x.weights Tryd.prog 22, m ≤ reachBytes) : ∃ cs : List Ac, ARd W W.heap.size a len cs ∧ len ≤ 9223372036854775807 := by
  obtain ⟨fuel, hf⟩ := h
  rcases open_slice Tryd.underlying22 hf with ⟨hcs, _⟩ | ⟨ad, l, c, m, n, D, Pl, hcs, _, hl, hm, hmm, hx, hall⟩
  · simp [Value.cells] at hcs
    obtain ⟨rfl, rfl, rfl⟩ := hcs
    exact ⟨[], ⟨rfl, fun j a h => by simp at h⟩, by omega⟩
  · simp [Value.cells] at hcs
    obtain ⟨rfl, rfl, rfl⟩ := hcs
    simp only [Prod.mk.injEq] at hx
    obtain ⟨rfl, rfl⟩ := hx
    have hlm : len ≤ m := by rw [hmm]; split <;> omega
    unfold maxLen at hm
    rw [cells29] at hall
    obtain ⟨cs, hcl, hcs⟩ := choose_list len (fun i (a : Ac) => ∃ A1 n1 c1 A2 n2 c2, (∀ j v, (a.cells A1 n1 c1 A2 n2 c2).toList[j]? = some v → W.cell? ((ad.add (i * 4)).add j) = some v) ∧ n1 ≤ c1 ∧ n2 ≤ c2 ∧ n1 ≤ 140737488355328 ∧ n2 ≤ 140737488355328 ∧ Rd W W.heap.size A1 n1 a.raw ∧ Rd W W.heap.size A2 n2 a.val) (fun i hi => by
      obtain ⟨cs, hc, ht⟩ := hall i (by omega)
      obtain ⟨_, hcl, hat⟩ := World.cells?_some hc
      obtain ⟨a, A1, n1, c1, A2, n2, c2, rfl, m1, m2, m3, m4, r1, r2⟩ := open_act ht (fun q hq => hsz q (by
        show q ∈ DataW.weights Tryd.prog 22 (.slice _ _)
        simp only [DataW.weights, Tryd.underlying22]
        exact List.mem_cons_of_mem _ (List.mem_append.2 (.inl (weights_all (d := D i) (List.mem_map.2 ⟨i, List.mem_range.2 hi, rfl⟩) q hq)))))
      refine ⟨a, A1, n1, c1, A2, n2, c2, fun j v hv => ?_, m1, m2, m3, m4, r1, r2⟩
      have hj := (List.getElem?_eq_some_iff.1 hv).1
      rw [hat j (by rw [hcl] at hj; exact hj), hv])
    refine ⟨cs, ⟨hcl, fun j a ha => ?_⟩, by omega⟩
    obtain ⟨A1, n1, c1, A2, n2, c2, hc, m1, m2, m3, m4, r1, r2⟩ := hcs j a ha
    have hj := (List.getElem?_eq_some_iff.1 ha).1
    obtain ⟨z, hz⟩ : ∃ z, cs[0]? = some z := ⟨_, List.getElem?_eq_getElem (by omega)⟩
    obtain ⟨B1, q1, d1, B2, q2, d2, hc0, _⟩ := hcs 0 z hz
    have h0 := hc0 0 _ rfl
    rw [Nat.zero_mul, show (ad.add 0) = ad by simp [Addr.add]] at h0
    obtain ⟨b', o', rfl⟩ := spot_none h0
    have hcc : ∀ k v, (a.cells A1 n1 c1 A2 n2 c2).toList[k]? = some v → W.cell? ⟨b', o' + j * 4 + k, none⟩ = some v := fun k v hv => by
      have := hc k v hv
      rwa [Addr.add_mid, Addr.add_mid] at this
    exact ⟨b', o', A1, n1, c1, A2, n2, c2, rfl, World.block_lt_of_cell? W _ (hcc 0 _ rfl), hcc 0 _ rfl, hcc 1 _ rfl, hcc 2 _ rfl, hcc 3 _ rfl, m1, m2, m3, m4, r1, r2⟩
end
end Go.Proofs.YtolkpjbbfopmnaaDoor
namespace Go.Proofs.YtolkpjbbfopmnaaDoor
open Go.ChangeShapes Go.WideShapes Go.ChangeAt Go.RowKit

theorem num_u64 {z : Int} (h : (Lit.int .u64 z).wf = true) : ∃ n : UInt64, z = n.toNat := by
  have hb := bounds_u64 h
  exact ⟨UInt64.ofNat z.toNat, by rw [UInt64.toNat_ofNat']; omega⟩
theorem num_u8 {z : Int} (h : (Lit.int .u8 z).wf = true) : ∃ b : UInt8, z = b.toNat := by
  have hb := bounds_u8 h
  exact ⟨UInt8.ofNat z.toNat, by rw [UInt8.toNat_ofNat']; omega⟩
end Go.Proofs.YtolkpjbbfopmnaaDoor
