/-
  Small facts for the rows: a slice of places among the arguments is read as places; the listed variable errors.errorType holds the type's handle.
-/
import Derived.Test.YtoobblofblodnaaDoorRows
import Derived.Test.YtoobblofblodnaaDoorMade
import Derived.ProofKit
import Derived.OpenShut
import Derived.ShutString
import Derived.ChangeOld
import Derived.ChangeSame
import Derived.ChangeVars
import Derived.JoinedOf
import Derived.LaidLaws
import Derived.LaidHandle
import Derived.LaidMore
import Derived.Stop.Joined
import Derived.Deep.Slices
import Derived.Deep.Fields
namespace Go.Proofs.YtoobblofblodnaaDoor
open Go.ChangeShapes Go.WideShapes Go.ChangeAt Go.RowKit Go.Deep

theorem own : ownKnob Tryd.prog.godebug = none := by kernel_rfl
theorem laidOut : laidOutB Tryd.prog = true := by kernel_rfl
theorem et : Tryd.prog.globalNamed "errors.errorType" = some 0 := by kernel_rfl
theorem rt : (Tryd.prog.cutTypes.find? (·.1 == "internal/reflectlite.rtype")).map (·.2) = some 98 := by kernel_rfl
theorem oneRow : ((List.range 160).filter fun t => Tryd.prog.rowNamed t [101, 114, 114, 111, 114]) = [27] := by kernel_rfl
theorem typesSize : Tryd.prog.types.size = 160 := by kernel_rfl

/-- What the listed handle gives a walk: the variable's one cell. -/
theorem handle_of {W : World} {l : List (String × (DataW Unit))} (h : handlesMet Tryd.prog l W) (hm : ("errors.errorType", Rows.laid_errors_errorType) ∈ l) : Laid W := by
  obtain ⟨name, u, ty, e1, e2, e3, e4, e5⟩ := h _ hm
  have en : name = [101, 114, 114, 111, 114] := (Option.some.inj e1).symm
  subst en
  obtain rfl := Option.some.inj (rt.symm.trans e2)
  have hm : ty ∈ (List.range 160).filter fun t => Tryd.prog.rowNamed t [101, 114, 114, 111, 114] := List.mem_filter.2 ⟨List.mem_range.2 (by rw [← typesSize]; exact e3), e4⟩
  rw [oneRow] at hm
  obtain rfl := List.mem_singleton.1 hm
  have hh : typeHandle Tryd.prog 27 = .pointer (some ⟨4, 27, none⟩) := by kernel_rfl
  rw [hh] at e5
  have hc := World.var?_cell et e5 0
  unfold Laid
  simpa using hc

theorem choose_list {α : Type} (n : Nat) (P : Nat → α → Prop) (h : ∀ i, i < n → ∃ y, P i y) : ∃ l : List α, l.length = n ∧ ∀ i y, l[i]? = some y → P i y := by
  induction n with
  | zero => exact ⟨[], rfl, fun i y h => by simp at h⟩
  | succ n ih =>
    obtain ⟨l, hl, hP⟩ := ih fun i hi => h i (by omega)
    obtain ⟨y, hy⟩ := h n (by omega)
    refine ⟨l ++ [y], by simp [hl], fun i z hz => ?_⟩
    by_cases hi : i < n
    · rw [List.getElem?_append_left (by omega)] at hz
      exact hP i z hz
    · rw [List.getElem?_append_right (by omega), hl] at hz
      have h1 : i - n < 1 := (List.getElem?_eq_some_iff.1 hz).1
      obtain rfl : i = n := by omega
      rw [Nat.sub_self] at hz
      simp at hz
      subst hz
      exact hy

theorem add_none (b o i : Nat) : (⟨b, o, none⟩ : Addr).add i = ⟨b, o + i, none⟩ := by
  unfold Addr.add
  split
  · simp_all
  · rfl

theorem spot_none {w : World} {a : Addr} {u : Value} (h : w.cell? (a.add 0) = some u) : ∃ b o, a = ⟨b, o, none⟩ := by
  obtain ⟨b, o, spot⟩ := a
  have hs : spot = none := by simpa [Addr.add] using World.cell?_spot h
  exact ⟨b, o, by rw [hs]⟩

theorem len3 {α : Type} : ∀ {l : List α}, l.length = 3 → ∃ a b c, l = [a, b, c]
  | [a, b, c], _ => ⟨a, b, c, rfl⟩
  | [], h => by simp at h
  | [_], h => by simp at h
  | [_, _], h => by simp at h
  | _ :: _ :: _ :: _ :: _, h => by simp at h

theorem fields35 : ∃ fs, Tryd.prog.underlying 35 = some (.struct fs) ∧ oneCellFields Tryd.prog fs = true ∧ fs.size = 3 ∧ (fs[0]?).map (·.type) = some 9 ∧ (fs[1]?).map (·.type) = some 3 ∧ (fs[2]?).map (·.type) = some 4 :=
  ⟨_, Tryd.underlying35, by kernel_rfl, by kernel_rfl, by kernel_rfl, by kernel_rfl, by kernel_rfl⟩
theorem cells35 : Tryd.prog.cellsOf 35 = 3 := by kernel_rfl

/-- Places among the arguments. -/
theorem open_places {H : Type} {enc : TypeId × Value → H} {W : World} {base : Nat} {sp : Nat → Bool} {held : Bool} {a : Option Addr} {len cap : Nat} {x : DataW H} {p : List MemPlace}
    (h : DataW.Trod enc Tryd.prog W base sp held 22 (.slice a len cap) x p) : ∃ ps, PRd W a len ps ∧ len ≤ cap ∧ cap ≤ maxLen := by
  obtain ⟨fuel, hf⟩ := h
  rcases open_slice Tryd.underlying22 hf with ⟨hcs, _⟩ | ⟨ad, l, c, m, n, D, Pl', hcs, _, hl, hm, hmm, _, hall⟩
  · simp [Value.cells] at hcs
    obtain ⟨rfl, rfl, rfl⟩ := hcs
    exact ⟨[], ⟨rfl, .inl rfl⟩, by omega, Nat.zero_le _⟩
  · simp [Value.cells] at hcs
    obtain ⟨rfl, rfl, rfl⟩ := hcs
    have hlm : len ≤ m := by rw [hmm]; split <;> omega
    rcases Nat.eq_zero_or_pos len with h0 | h0
    · subst h0
      exact ⟨[], ⟨rfl, .inl rfl⟩, by omega, hm⟩
    obtain ⟨fl, hu, hone, hsz, ht0, ht1, ht2⟩ := fields35
    have hone' := hone_of hone
    rw [cells35] at hall
    have hone2 : ∀ i, i < len → ∃ (s : ByteArray) (z : Int) (b : Bool), W.cell? ((ad.add (i * 3)).add 0) = some (.string s) ∧ W.cell? ((ad.add (i * 3)).add 1) = some (.int .i64 z) ∧ W.cell? ((ad.add (i * 3)).add 2) = some (.bool b) := by
      intro i hi
      obtain ⟨cs, hc, ht⟩ := hall i (by omega)
      obtain ⟨_, hcl, hat⟩ := World.cells?_some hc
      obtain ⟨ys, n', _, _, _, hyl, hg⟩ := DataW.trod_struct hu ht
      obtain ⟨u, v, y, rfl⟩ := len3 hcl
      obtain ⟨f0, hf0, e0⟩ := Option.map_eq_some_iff.1 ht0
      obtain ⟨f1, hf1, e1⟩ := Option.map_eq_some_iff.1 ht1
      obtain ⟨f2, hf2, e2⟩ := Option.map_eq_some_iff.1 ht2
      have g0 := hg 0 f0 hf0
      have g1 := hg 1 f1 hf1
      have g2 := hg 2 f2 hf2
      rw [(hone' 0 f0 hf0).1, (hone' 0 f0 hf0).2, e0] at g0
      rw [(hone' 1 f1 hf1).1, (hone' 1 f1 hf1).2, e1] at g1
      rw [(hone' 2 f2 hf2).1, (hone' 2 f2 hf2).2, e2] at g2
      simp only [List.drop_zero, List.drop_succ_cons, List.take_succ_cons, List.take_zero] at g0 g1 g2
      obtain ⟨y0, hy0⟩ : ∃ y, ys[0]? = some y := ⟨ys[0]'(by omega), List.getElem?_eq_getElem _⟩
      obtain ⟨y1, hy1⟩ : ∃ y, ys[1]? = some y := ⟨ys[1]'(by omega), List.getElem?_eq_getElem _⟩
      obtain ⟨y2, hy2⟩ : ∃ y, ys[2]? = some y := ⟨ys[2]'(by omega), List.getElem?_eq_getElem _⟩
      rw [hy0] at g0
      rw [hy1] at g1
      rw [hy2] at g2
      obtain ⟨s, hs, _, _⟩ := DataW.trod_string Tryd.underlying9 g0
      injection hs with hs _
      subst hs
      obtain ⟨z, hz, _, _⟩ := DataW.trod_int Tryd.underlying3 g1
      injection hz with hz _
      subst hz
      obtain ⟨b, hb, _⟩ := DataW.trod_bool Tryd.underlying4 g2
      injection hb with hb _
      subst hb
      exact ⟨s, z, b, hat 0 (by omega), hat 1 (by omega), hat 2 (by omega)⟩
    obtain ⟨s0, z0, b0, hcell0, _⟩ := hone2 0 h0
    have hcell0' : W.cell? (ad.add 0) = some (.string s0) := by simpa [Addr.add] using hcell0
    obtain ⟨b, o, rfl⟩ := spot_none hcell0'
    have hb : b < W.heap.size := by
      have := World.block_lt_of_cell? W _ hcell0'
      simpa [add_none] using this
    obtain ⟨ps, hpl, hP⟩ := choose_list len (fun i (q : Pl) => W.cell? ⟨b, o + i * 3, none⟩ = some (.string q.s) ∧ W.cell? ⟨b, o + i * 3 + 1, none⟩ = some (.int .i64 q.n) ∧ W.cell? ⟨b, o + i * 3 + 2, none⟩ = some (.bool q.other)) (fun i hi => by
        obtain ⟨s, z, y, k1, k2, k3⟩ := hone2 i hi
        rw [add_none, add_none] at k1 k2 k3
        exact ⟨⟨s, z, y⟩, k1, k2, k3⟩)
    exact ⟨ps, ⟨hpl, .inr ⟨b, o, rfl, hb, hP⟩⟩, hl, hm⟩
end Go.Proofs.YtoobblofblodnaaDoor
