/-
  Slices of fields, and of slices of bytes, among the arguments are read as fields and as lists: no condition.
-/
import Derived.Test.YtjepbnhlnomhlaaOpen
import Derived.Test.YtjepbnhlnomhlaaFields
import Derived.Deep.Slices
import Derived.Deep.Fields
namespace Go.Proofs.Ytjepbnhlnomhlaa
open Go.ChangeShapes Go.WideShapes Go.ChangeAt Go.RowKit Go.Deep

theorem choose_list {α : Type} (n : Nat) (P : Nat → α → Prop) (h : ∀ i, i < n → ∃ y, P i y) : ∃ l : List α, l.length = n ∧ ∀ i y, l[i]? = some y → P i y := by
  induction n with
  | zero => exact ⟨[], rfl, fun i y h => by simp at h⟩
  | succ n ih =>
    obtain ⟨l, hl, hP⟩ := ih fun i hi => h i (by omega)
    obtain ⟨y, hy⟩ := h n (by omega)
    refine ⟨l ++ [y], by simp [hl], fun i z hz => ?_⟩
    by_cases hi : i < n
    · rw [List.getElem?_append_left (by omega)] at hz
      exact hP i z hz
    · rw [List.getElem?_append_right (by omega), hl] at hz
      have h1 : i - n < 1 := (List.getElem?_eq_some_iff.1 hz).1
      obtain rfl : i = n := by omega
      rw [Nat.sub_self] at hz
      simp at hz
      subst hz
      exact hy

theorem spot_none {w : World} {a : Addr} {u : Value} (h : w.cell? (a.add 0) = some u) : ∃ b o, a = ⟨b, o, none⟩ := by
  obtain ⟨b, o, spot⟩ := a
  have hs : spot = none := by simpa [Addr.add] using World.cell?_spot h
  exact ⟨b, o, by rw [hs]⟩

theorem fields39 : ∃ fs, Try.prog.underlying 81 = some (.struct fs) ∧ oneCellFields Try.prog fs = true ∧ fs.size = 2 ∧ (fs[0]?).map (·.type) = some 5 ∧ (fs[1]?).map (·.type) = some 35 :=
  ⟨_, Try.underlying81, by kernel_rfl, by kernel_rfl, by kernel_rfl, by kernel_rfl⟩
theorem cells39 : Try.prog.cellsOf 81 = 2 := by kernel_rfl
theorem cells22 : Try.prog.cellsOf 35 = 1 := by kernel_rfl

/-- Fields among the arguments. -/
theorem open_fields {H : Type} {enc : TypeId × Value → H} {W : World} {base : Nat} {sp : Nat → Bool} {held : Bool} {a : Option Addr} {len cap : Nat} {x : DataW H} {p : List MemPlace}
    (h : DataW.Trod enc Try.prog W base sp held 69 (.slice a len cap) x p) : ∃ fs, FRd W W.heap.size a len fs ∧ len ≤ cap ∧ len ≤ 9223372036854775807 := by
  obtain ⟨fuel, hf⟩ := h
  rcases open_slice Try.underlying69 hf with ⟨hcs, _⟩ | ⟨ad, l, c, m, n, D, Pl, hcs, _, hl, hm, hmm, _, hall⟩
  · simp [Value.cells] at hcs
    obtain ⟨rfl, rfl, rfl⟩ := hcs
    exact ⟨[], FRd.nil, by omega, by omega⟩
  · simp [Value.cells] at hcs
    obtain ⟨rfl, rfl, rfl⟩ := hcs
    have hlm : len ≤ m := by rw [hmm]; split <;> omega
    unfold maxLen at hm
    rcases Nat.eq_zero_or_pos len with h0 | h0
    · subst h0
      exact ⟨[], FRd.nil, by omega, by omega⟩
    obtain ⟨fl, hu, hone, hsz, ht0, ht1⟩ := fields39
    have hone' := hone_of hone
    rw [cells39] at hall
    have hone2 : ∀ i, i < len → ∃ z A' n' c' bs, (Lit.int .u8 z).wf = true ∧ W.cell? ((ad.add (i * 2)).add 0) = some (.int .u8 z) ∧ W.cell? ((ad.add (i * 2)).add 1) = some (.slice A' n' c') ∧ Rd W W.heap.size A' n' bs ∧ n' ≤ c' ∧ n' ≤ 9223372036854775807 := by
      intro i hi
      obtain ⟨cs, hc, ht⟩ := hall i (by omega)
      obtain ⟨_, hcl, hat⟩ := World.cells?_some hc
      obtain ⟨ys, n', _, _, _, hyl, hg⟩ := DataW.trod_struct hu ht
      match cs, hcl with
      | [u, v], _ =>
        obtain ⟨f0, hf0, e0⟩ := Option.map_eq_some_iff.1 ht0
        obtain ⟨f1, hf1, e1⟩ := Option.map_eq_some_iff.1 ht1
        have g0 := hg 0 f0 hf0
        have g1 := hg 1 f1 hf1
        rw [(hone' 0 f0 hf0).1, (hone' 0 f0 hf0).2, e0] at g0
        rw [(hone' 1 f1 hf1).1, (hone' 1 f1 hf1).2, e1] at g1
        simp only [List.drop_zero, List.drop_succ_cons, List.take_succ_cons, List.take_zero] at g0 g1
        have hy0 : ∃ y, ys[0]? = some y := ⟨ys[0]'(by omega), List.getElem?_eq_getElem _⟩
        have hy1 : ∃ y, ys[1]? = some y := ⟨ys[1]'(by omega), List.getElem?_eq_getElem _⟩
        obtain ⟨y0, hy0⟩ := hy0
        obtain ⟨y1, hy1⟩ := hy1
        rw [hy0] at g0
        rw [hy1] at g1
        obtain ⟨z, hz, _, hwf⟩ := DataW.trod_int Try.underlying5 g0
        injection hz with hz _
        subst hz
        obtain ⟨A', n'', c', bs, rfl, hr, hnc, hmx⟩ := open_bytes' g1
        exact ⟨z, A', n'', c', bs, hwf, (hat 0 (by omega)), (hat 1 (by omega)), hr, hnc, hmx⟩
    obtain ⟨z0, A0, n0, c0, bs0, _, hcell0, _⟩ := hone2 0 h0
    have hcell0' : W.cell? (ad.add 0) = some (.int .u8 z0) := by simpa [Addr.add] using hcell0
    obtain ⟨b, o, rfl⟩ := spot_none hcell0'
    have hb : b < W.heap.size := by
      have := World.block_lt_of_cell? W _ hcell0'
      simpa [Addr.add_mid] using this
    obtain ⟨fs, hfl, hP⟩ := choose_list len (fun i (f : UInt8 × List UInt8) => ∃ A' n' c', W.cell? ⟨b, o + 2 * i, none⟩ = some (V8 f.1) ∧ W.cell? ⟨b, o + (2 * i + 1), none⟩ = some (.slice A' n' c') ∧ n' ≤ c' ∧ n' ≤ 9223372036854775807 ∧ Rd W W.heap.size A' n' f.2) (fun i hi => by
        obtain ⟨z, A', n', c', bs, hwf, k1, k2, k3, k4, k5⟩ := hone2 i hi
        obtain ⟨t, rfl⟩ := nat_u8 hwf
        rw [Addr.add_mid, Addr.add_mid] at k1 k2
        rw [show o + i * 2 + 0 = o + 2 * i by omega] at k1
        rw [show o + i * 2 + 1 = o + (2 * i + 1) by omega] at k2
        exact ⟨(t, bs), A', n', c', k1, k2, k4, k5, k3⟩)
    obtain ⟨xs, hxl, hX⟩ := choose_list (len * 2) (fun j (u : Value) => W.cell? ⟨b, o + j, none⟩ = some u) (fun j hj => by
        obtain ⟨f, hf⟩ : ∃ f, fs[j / 2]? = some f := ⟨fs[j / 2]'(by omega), List.getElem?_eq_getElem _⟩
        obtain ⟨A', n', c', k1, k2, _⟩ := hP _ f hf
        rcases Nat.mod_two_eq_zero_or_one j with h2 | h2
        · exact ⟨_, by rw [show o + j = o + 2 * (j / 2) by omega]; exact k1⟩
        · exact ⟨_, by rw [show o + j = o + (2 * (j / 2) + 1) by omega]; exact k2⟩)
    have get : ∀ j u, j < len * 2 → W.cell? ⟨b, o + j, none⟩ = some u → xs[j]? = some u := fun j u hj hc => by
      have h1 : xs[j]? = some (xs[j]'(by omega)) := List.getElem?_eq_getElem _
      have h2 := hX j _ h1
      rw [hc] at h2
      rw [h1, h2]
    refine ⟨fs, ⟨xs, ⟨hxl, fun _ => ⟨b, o, rfl, hb, hX⟩⟩, hfl, fun j f hf => ?_⟩, hl, by omega⟩
    have hj : j < len := by have := (List.getElem?_eq_some_iff.1 hf).1; omega
    obtain ⟨A', n', c', k1, k2, k3, k4, k5⟩ := hP j f hf
    exact ⟨A', n', c', get _ _ (by omega) k1, get _ _ (by omega) k2, k3, k4, k5⟩

/-- Lists of bytes among the arguments. -/
theorem open_lists {H : Type} {enc : TypeId × Value → H} {W : World} {base : Nat} {sp : Nat → Bool} {held : Bool} {a : Option Addr} {len cap : Nat} {x : DataW H} {p : List MemPlace}
    (h : DataW.Trod enc Try.prog W base sp held 50 (.slice a len cap) x p) : ∃ ls, LRd W W.heap.size a len ls ∧ len ≤ cap ∧ len ≤ 9223372036854775807 := by
  obtain ⟨fuel, hf⟩ := h
  rcases open_slice Try.underlying50 hf with ⟨hcs, _⟩ | ⟨ad, l, c, m, n, D, Pl, hcs, _, hl, hm, hmm, _, hall⟩
  · simp [Value.cells] at hcs
    obtain ⟨rfl, rfl, rfl⟩ := hcs
    exact ⟨[], LRd.nil, by omega, by omega⟩
  · simp [Value.cells] at hcs
    obtain ⟨rfl, rfl, rfl⟩ := hcs
    have hlm : len ≤ m := by rw [hmm]; split <;> omega
    unfold maxLen at hm
    rcases Nat.eq_zero_or_pos len with h0 | h0
    · subst h0
      exact ⟨[], LRd.nil, by omega, by omega⟩
    rw [cells22] at hall
    have hone2 : ∀ i, i < len → ∃ A' n' c' bs, W.cell? ((ad.add (i * 1)).add 0) = some (.slice A' n' c') ∧ Rd W W.heap.size A' n' bs ∧ n' ≤ c' ∧ n' ≤ 9223372036854775807 := by
      intro i hi
      obtain ⟨cs, hc, ht⟩ := hall i (by omega)
      obtain ⟨_, hcl, hat⟩ := World.cells?_some hc
      match cs, hcl with
      | [u], _ =>
        obtain ⟨A', n'', c', bs, rfl, hr, hnc, hmx⟩ := open_bytes' ht
        exact ⟨A', n'', c', bs, hat 0 (by omega), hr, hnc, hmx⟩
    obtain ⟨A0, n0, c0, bs0, hcell0, _⟩ := hone2 0 h0
    have hcell0' : W.cell? (ad.add 0) = some (.slice A0 n0 c0) := by simpa [Addr.add] using hcell0
    obtain ⟨b, o, rfl⟩ := spot_none hcell0'
    have hb : b < W.heap.size := by
      have := World.block_lt_of_cell? W _ hcell0'
      simpa [Addr.add_mid] using this
    obtain ⟨fs, hfl, hP⟩ := choose_list len (fun i (f : List UInt8) => ∃ A' n' c', W.cell? ⟨b, o + i, none⟩ = some (.slice A' n' c') ∧ n' ≤ c' ∧ n' ≤ 9223372036854775807 ∧ Rd W W.heap.size A' n' f) (fun i hi => by
        obtain ⟨A', n', c', bs, k2, k3, k4, k5⟩ := hone2 i hi
        rw [Addr.add_mid, Addr.add_mid] at k2
        rw [show o + i * 1 + 0 = o + i by omega] at k2
        exact ⟨bs, A', n', c', k2, k4, k5, k3⟩)
    obtain ⟨xs, hxl, hX⟩ := choose_list (len * 1) (fun j (u : Value) => W.cell? ⟨b, o + j, none⟩ = some u) (fun j hj => by
        obtain ⟨f, hf⟩ : ∃ f, fs[j]? = some f := ⟨fs[j]'(by omega), List.getElem?_eq_getElem _⟩
        obtain ⟨A', n', c', k2, _⟩ := hP _ f hf
        exact ⟨_, k2⟩)
    have get : ∀ j u, j < len → W.cell? ⟨b, o + j, none⟩ = some u → xs[j]? = some u := fun j u hj hc => by
      have h1 : xs[j]? = some (xs[j]'(by omega)) := List.getElem?_eq_getElem _
      have h2 := hX j _ h1
      rw [hc] at h2
      rw [h1, h2]
    refine ⟨fs, ⟨xs, ⟨hxl, fun _ => ⟨b, o, rfl, hb, hX⟩⟩, hfl, fun j f hf => ?_⟩, hl, by omega⟩
    have hj : j < len := by have := (List.getElem?_eq_some_iff.1 hf).1; omega
    obtain ⟨A', n', c', k2, k3, k4, k5⟩ := hP j f hf
    exact ⟨A', n', c', get _ _ hj k2, k3, k4, k5⟩
end Go.Proofs.Ytjepbnhlnomhlaa
