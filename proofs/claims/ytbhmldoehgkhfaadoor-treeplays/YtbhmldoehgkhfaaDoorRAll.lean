/-
  What the document's All and SameNodes return: a tree's nodes, each ahead of what is beneath it; true for rows that read alike; conditions: trees and rows lie in memory, the table holds its words.
-/
import Derived.Test.YtbhmldoehgkhfaaDoorNodesM
import Derived.Test.YtbhmldoehgkhfaaDoorRApi
namespace Go.Proofs.YtbhmldoehgkhfaaDoor
open Go.RowKit
open Tr

theorem tab0_base {w w' : World} {base : Nat} (h : Sh.Tab w 0) (hb : Below base w w') (hw : 1 ≤ base) : Sh.Tab w' 0 := fun j hj => by
  rw [hb.cell (p := ⟨0, j, none⟩) (by show 0 < base; omega)]; exact h j hj
theorem wpList_build_node {ops : Array Oper} {rest : List Oper} {o : Oper} {a : Act} {w : World} {Q : Exit → Act → World → Prop} (hgd : o.guard = none) (x : Operand)
    (ho : o.op = .buildSlice 52 1 #[(0, x)]) (Y : Array Value) (hY : Y.size = 68) (hx : a.eval x = .agg Y)
    (h : wpList Tryd.prog ops Q rest (a.put o.dst (.slice (some ⟨w.heap.size, 0, none⟩) 1 1)) (w.alloc (.cells Y 64))) : wpList Tryd.prog ops Q (o :: rest) a w :=
  wpList_plain hgd fun _ hK => wp_build_node x ho Y hY hx (hK _ _ h)
def RAllPost (base n : Nat) (ts : List T) (w : World) (e : Ending) (w' : World) : Prop := ∃ v', e = .returned v' ∧ NPOwn w' base v' n ts ∧ Below base w w'
theorem rall_nil (v : Value) (w : World) : Calls Tryd.prog 27 #[.pointer none, v] w fun e w' => e = .returned v ∧ w = w' := by
  go_enter Tryd.func27, Tryd.ntmps27
  go_wp2_with fail
  go_ret
  exact ⟨rfl, rfl⟩
set_option maxRecDepth 100000 in
set_option maxHeartbeats 2000000 in
theorem rall_any (base : Nat) (hb1 : 1 < base) : ∀ (t : T) (b : Nat) (w : World) (v : Value) (m : Nat) (ts : List T) (_ : RIn w base t b) (_ : NPOwn w base v m ts) (_ : base ≤ w.heap.size) (_ : m + 2 * t.n ≤ 1000000) (_ : Sh.Tab w 0),
    Calls Tryd.prog 27 #[ptr (some b), v] w (RAllPost base (m + t.all.length) (ts ++ t.all) w)
  | .leaf k val, b, w, v, m, ts, hl, hO, hbs, hn, ht => by
    have hIn := RIn.more hbs hl
    have HAPI := Lib.hid (rapi_any (T.leaf k val) b w hIn (by show 1 ≤ _; omega) ht (by omega))
    obtain ⟨Av, cv, rfl, hcv, _⟩ := hO.form
    have HO := Lib.hid hO
    have HTB := Lib.hid ht
    obtain ⟨A0, n0, c0, A0', n0', c0', hh⟩ := hl
    have HH := Lib.hid hh
    clear hh hO ht hIn
    rw [ptr_some] at HAPI ⊢
    go_enter Tryd.func27, Tryd.ntmps27
    go_wp2_with fail
    refine HAPI.out.mono ?_
    rintro e w2 ⟨A1, n1, c1, A1', n1', c1', x1, y1, hh1, rfl, hb2⟩
    obtain ⟨rfl, rfl, rfl, rfl, rfl, rfl⟩ : A0 = A1 ∧ n0 = n1 ∧ c0 = c1 ∧ A0' = A1' ∧ n0' = n1' ∧ c0' = c1' := by
      have h1 : w.cell? ⟨b, 0, none⟩ = some (.slice A0 n0 c0) := HH.out.cells.1
      have h2 : w.cell? ⟨b, 1, none⟩ = some (.slice A0' n0' c0') := HH.out.cells.2.1
      have h3 : w.cell? ⟨b, 0, none⟩ = some (.slice A1 n1 c1) := hh1.cells.1
      have h4 : w.cell? ⟨b, 1, none⟩ = some (.slice A1' n1' c1') := hh1.cells.2.1
      rw [h1] at h3
      rw [h2] at h4
      cases h3
      cases h4
      exact ⟨rfl, rfl, rfl, rfl, rfl, rfl⟩
    have hs2 := hb2.size
    have HO2 := Lib.hid (HO.out.on hb2)
    have HH2 := Lib.hid (HH.out.below hb2 hbs)
    have HTB2 := Lib.hid (tab0_base HTB.out (hb2.mono hbs) (by omega))
    have HB2 := Lib.hid (hb2.mono hbs)
    clear hh1 hb2 HAPI HTB
    simp only []
    go_step
    refine wpList_build_node rfl (.tmp 10) rfl _ (by rw [List.size_toArray, ac_len]) rfl ?_
    refine wpList_append_node rfl (.tmp 8) (.tmp 11) rfl base _ m ts (T.leaf k val) rfl HO2.out A0 n0 c0 A0' n0' c0' rfl HH2.out.knc HH2.out.vnc (by obtain ⟨_, h1, _⟩ := HO2.out; exact rdx_old h1 HH2.out.key (by omega)) (by obtain ⟨_, h1, _⟩ := HO2.out; exact rdx_old h1 HH2.out.val (by omega)) (by omega) (by omega) ?_
    intro v3 w3 hO3 hb3
    have hs3 := hb3.size
    obtain ⟨A3, c3, rfl, hc3, _⟩ := hO3.form
    have HO3 := Lib.hid hO3
    have HH3 := Lib.hid (HH2.out.below hb3 (Nat.le_refl _))
    have HTB3 := Lib.hid (tab0_base HTB2.out hb3 (by omega))
    have HB3 := Lib.hid (HB2.out.trans hb3)
    clear hO3 HO2 HTB2 HB2
    have k2 : w3.cell? ⟨b, 2, none⟩ = some (.int .i64 0) := HH3.out.cells.2.2.1
    clear hb3 HH2
    go_simp
    go_wp2_with fail
    go_ret
    exact ⟨_, rfl, HO3.out, HB3.out⟩
  | .node l r, b, w, v, m, ts, hl, hO, hbs, hn, ht => by
    have hIn := RIn.more hbs hl
    have HAPI := Lib.hid (rapi_any (T.node l r) b w hIn (by have e : (T.node l r).n = l.n + r.n := rfl; omega) ht (by omega))
    obtain ⟨Av, cv, rfl, hcv, _⟩ := hO.form
    have HO := Lib.hid hO
    have HTB := Lib.hid ht
    obtain ⟨A0, n0, c0, A0', n0', c0', x, y, hh, hx, hy⟩ := hl
    have HH := Lib.hid hh
    have HX := Lib.hid hx
    have HY := Lib.hid hy
    clear hh hx hy hO ht hIn
    rw [ptr_some] at HAPI ⊢
    go_enter Tryd.func27, Tryd.ntmps27
    go_wp2_with fail
    refine HAPI.out.mono ?_
    rintro e w2 ⟨A1, n1, c1, A1', n1', c1', x1, y1, hh1, rfl, hb2⟩
    obtain ⟨rfl, rfl, rfl, rfl, rfl, rfl⟩ : A0 = A1 ∧ n0 = n1 ∧ c0 = c1 ∧ A0' = A1' ∧ n0' = n1' ∧ c0' = c1' := by
      have h1 : w.cell? ⟨b, 0, none⟩ = some (.slice A0 n0 c0) := HH.out.cells.1
      have h2 : w.cell? ⟨b, 1, none⟩ = some (.slice A0' n0' c0') := HH.out.cells.2.1
      have h3 : w.cell? ⟨b, 0, none⟩ = some (.slice A1 n1 c1) := hh1.cells.1
      have h4 : w.cell? ⟨b, 1, none⟩ = some (.slice A1' n1' c1') := hh1.cells.2.1
      rw [h1] at h3
      rw [h2] at h4
      cases h3
      cases h4
      exact ⟨rfl, rfl, rfl, rfl, rfl, rfl⟩
    have hs2 := hb2.size
    have HO2 := Lib.hid (HO.out.on hb2)
    have HH2 := Lib.hid (HH.out.below hb2 hbs)
    have HTB2 := Lib.hid (tab0_base HTB.out (hb2.mono hbs) (by omega))
    have HB2 := Lib.hid (hb2.mono hbs)
    clear hh1 hb2 HAPI HTB
    simp only []
    go_step
    refine wpList_build_node rfl (.tmp 10) rfl _ (by rw [List.size_toArray, ac_len]) rfl ?_
    refine wpList_append_node rfl (.tmp 8) (.tmp 11) rfl base _ m ts (T.node l r) rfl HO2.out A0 n0 c0 A0' n0' c0' rfl HH2.out.knc HH2.out.vnc (by obtain ⟨_, h1, _⟩ := HO2.out; exact rdx_old h1 HH2.out.key (by omega)) (by obtain ⟨_, h1, _⟩ := HO2.out; exact rdx_old h1 HH2.out.val (by omega)) (by omega) (by omega) ?_
    intro v3 w3 hO3 hb3
    have hs3 := hb3.size
    obtain ⟨A3, c3, rfl, hc3, _⟩ := hO3.form
    have HO3 := Lib.hid hO3
    have HH3 := Lib.hid (HH2.out.below hb3 (Nat.le_refl _))
    have HTB3 := Lib.hid (tab0_base HTB2.out hb3 (by omega))
    have HB3 := Lib.hid (HB2.out.trans hb3)
    clear hO3 HO2 HTB2 HB2
    have k2 : w3.cell? ⟨b, 2, none⟩ = some (.int .i64 (T.node l r).h) := HH3.out.cells.2.2.1
    obtain ⟨k4, k5⟩ := HH3.out.sides (Below.refl _ _)
    have HX3 := Lib.hid ((HX.out.below (HB3.out) (Nat.le_refl _)))
    have HY3 := Lib.hid ((HY.out.below (HB3.out) (Nat.le_refl _)))
    have hz : (((T.node l r).h : Int) == 0) = false := by rw [beq_eq_false_iff_ne]; have := h_ne l r; omega
    have HNL := Lib.hid (show m + 1 + 2 * l.n + 2 * r.n ≤ 1000001 by have e : (T.node l r).n = l.n + r.n := rfl; omega)
    have HAL := Lib.hid (show l.all.length + 1 = 2 * l.n from all_len l)
    have HAR := Lib.hid (show r.all.length + 1 = 2 * r.n from all_len r)
    have HCL := Lib.hid (rall_any base hb1 l x)
    have HCR := Lib.hid (rall_any base hb1 r y)
    clear hb3 HH2 HX HY HO
    generalize (T.node l r).h = H at *
    go_simp
    go_upto_region 6 with (fail)
    have hlt3 := HH3.out.lt
    have hS0 : w3.drew.cell? ⟨b, 4, none⟩ = some (.pointer (some ⟨x, 0, none⟩)) ∧ w3.drew.cell? ⟨b, 5, none⟩ = some (.pointer (some ⟨y, 0, none⟩)) := ⟨k4, k5⟩
    refine wp_region_held_drew (S := fun u => u.cell? ⟨b, 4, none⟩ = some (.pointer (some ⟨x, 0, none⟩)) ∧ u.cell? ⟨b, 5, none⟩ = some (.pointer (some ⟨y, 0, none⟩))) (by kernel_rfl) hS0 (fun hHeld => ?_)
    refine wpAnyH_take (i := 0) (oi := { dst := some 19, op := Op.move (Operand.tmp 0), type := 26, pos := "ref.go:141", after := #[], guard := none }) (v := ?_) rfl (by kernel_rfl) (by kernel_rfl) (by kernel_rfl) (fun _ _ _ h => h) (Or.inl ⟨by rfl, ?_⟩) (by assumption) ?_
    rotate_left
    · first | (intro w hSw; (try dsimp only at hSw); go_simp; done) | (intro w hSw; (try dsimp only at hSw); go_simp; with_reducible rfl)
    simp only [Act.put, List.setIfInBounds_toArray, List.set_cons_zero, List.set_cons_succ]
    refine wpAnyH_take (i := 1) (oi := { dst := some 20, op := Op.nilCheck (Operand.tmp 19), type := 0, pos := "ref.go:141", after := #[{ on := 0, ground := Ground.data }], guard := none }) (v := ?_) rfl (by kernel_rfl) (by kernel_rfl) (by kernel_rfl) (fun _ _ _ h => h) (Or.inl ⟨by rfl, ?_⟩) (by assumption) ?_
    rotate_left
    · first | (intro w hSw; (try dsimp only at hSw); go_simp; done) | (intro w hSw; (try dsimp only at hSw); go_simp; with_reducible rfl)
    simp only [Act.put, List.setIfInBounds_toArray, List.set_cons_zero, List.set_cons_succ]
    refine wpAnyH_take (i := 2) (oi := { dst := some 21, op := Op.fieldAddr 62 (Operand.tmp 20) 5, type := 0, pos := "ref.go:141", after := #[{ on := 1, ground := Ground.data }], guard := none }) (v := ?_) rfl (by kernel_rfl) (by kernel_rfl) (by kernel_rfl) (fun _ _ _ h => h) (Or.inl ⟨by rfl, ?_⟩) (by assumption) ?_
    rotate_left
    · first | (intro w hSw; (try dsimp only at hSw); go_simp; done) | (intro w hSw; (try dsimp only at hSw); go_simp; with_reducible rfl)
    simp only [Act.put, List.setIfInBounds_toArray, List.set_cons_zero, List.set_cons_succ]
    refine wpAnyH_take (i := 3) (oi := { dst := some 22, op := Op.load 26 (Operand.tmp 21), type := 26, pos := "ref.go:141", after := #[{ on := 2, ground := Ground.data }], guard := none }) (v := ?_) rfl (by kernel_rfl) (by kernel_rfl) (by kernel_rfl) (fun _ _ _ h => h) (Or.inl ⟨by rfl, ?_⟩) (by assumption) ?_
    rotate_left
    · first | (intro w hSw; (try dsimp only at hSw); go_simp; done) | (intro w hSw; (try dsimp only at hSw); go_simp; with_reducible rfl)
    simp only [Act.put, List.setIfInBounds_toArray, List.set_cons_zero, List.set_cons_succ]
    refine wpAnyH_take (i := 4) (oi := { dst := some 23, op := Op.move (Operand.tmp 0), type := 26, pos := "ref.go:141", after := #[], guard := none }) (v := ?_) rfl (by kernel_rfl) (by kernel_rfl) (by kernel_rfl) (fun _ _ _ h => h) (Or.inl ⟨by rfl, ?_⟩) (by assumption) ?_
    rotate_left
    · first | (intro w hSw; (try dsimp only at hSw); go_simp; done) | (intro w hSw; (try dsimp only at hSw); go_simp; with_reducible rfl)
    simp only [Act.put, List.setIfInBounds_toArray, List.set_cons_zero, List.set_cons_succ]
    refine wpAnyH_take (i := 5) (oi := { dst := some 24, op := Op.nilCheck (Operand.tmp 23), type := 0, pos := "ref.go:141", after := #[{ on := 4, ground := Ground.data }], guard := none }) (v := ?_) rfl (by kernel_rfl) (by kernel_rfl) (by kernel_rfl) (fun _ _ _ h => h) (Or.inl ⟨by rfl, ?_⟩) (by assumption) ?_
    rotate_left
    · first | (intro w hSw; (try dsimp only at hSw); go_simp; done) | (intro w hSw; (try dsimp only at hSw); go_simp; with_reducible rfl)
    simp only [Act.put, List.setIfInBounds_toArray, List.set_cons_zero, List.set_cons_succ]
    refine wpAnyH_take (i := 6) (oi := { dst := some 25, op := Op.fieldAddr 62 (Operand.tmp 24) 4, type := 0, pos := "ref.go:141", after := #[{ on := 5, ground := Ground.data }], guard := none }) (v := ?_) rfl (by kernel_rfl) (by kernel_rfl) (by kernel_rfl) (fun _ _ _ h => h) (Or.inl ⟨by rfl, ?_⟩) (by assumption) ?_
    rotate_left
    · first | (intro w hSw; (try dsimp only at hSw); go_simp; done) | (intro w hSw; (try dsimp only at hSw); go_simp; with_reducible rfl)
    simp only [Act.put, List.setIfInBounds_toArray, List.set_cons_zero, List.set_cons_succ]
    refine wpAnyH_take (i := 7) (oi := { dst := some 26, op := Op.load 26 (Operand.tmp 25), type := 26, pos := "ref.go:141", after := #[{ on := 6, ground := Ground.data }], guard := none }) (v := ?_) rfl (by kernel_rfl) (by kernel_rfl) (by kernel_rfl) (fun _ _ _ h => h) (Or.inl ⟨by rfl, ?_⟩) (by assumption) ?_
    rotate_left
    · first | (intro w hSw; (try dsimp only at hSw); go_simp; done) | (intro w hSw; (try dsimp only at hSw); go_simp; with_reducible rfl)
    simp only [Act.put, List.setIfInBounds_toArray, List.set_cons_zero, List.set_cons_succ]
    refine wpAnyH_take (i := 8) (oi := { dst := some 27, op := Op.move (Operand.tmp 1), type := 52, pos := "ref.go:141", after := #[], guard := none }) (v := ?_) rfl (by kernel_rfl) (by kernel_rfl) (by kernel_rfl) (fun _ _ _ h => h) (Or.inl ⟨by rfl, ?_⟩) (by assumption) ?_
    rotate_left
    · first | (intro w hSw; (try dsimp only at hSw); go_simp; done) | (intro w hSw; (try dsimp only at hSw); go_simp; with_reducible rfl)
    simp only [Act.put, List.setIfInBounds_toArray, List.set_cons_zero, List.set_cons_succ]
    have HO4 : Hid (NPOwn w3.drew base (.slice A3 (m + 1) c3) (m + 1) (ts ++ [T.node l r])) := Lib.hid HO3.out
    have HB4 : Hid (Below base w w3.drew) := Lib.hid HB3.out.drew
    have HTB4 : Hid (Sh.Tab w3.drew 0) := Lib.hid HTB3.out
    have HX4 : Hid (RIn w3.drew base l x) := Lib.hid (HX3.out.below ((Below.refl base w3).drew) (Nat.le_refl _))
    have HY4 : Hid (RIn w3.drew base r y) := Lib.hid (HY3.out.below ((Below.refl base w3).drew) (Nat.le_refl _))
    have hs4 : base ≤ w3.drew.heap.size := by show base ≤ w3.heap.size; omega
    clear hHeld HO3 HB3 HTB3 HX3 HY3 HH3 k2 k4 k5
    generalize w3.drew = w4 at *
    have HC1 := Lib.hid (HCL.out w4 _ _ _ HX4.out HO4.out hs4 (by have := HNL.out; have := HAR.out; omega) HTB4.out)
    rw [ptr_some] at HC1
    refine wpAnyH_ready (rs := [9]) (by kernel_rfl) (by simp) ?_
    refine AllReadyH.cons rfl (fun K hK => ?_) AllReadyH.nil
    go_simp
    refine HC1.out.mono ?_
    rintro e w5 ⟨v5, rfl, hO5, hb5⟩
    obtain ⟨A5, c5, rfl, hc5, _⟩ := hO5.form
    have hs5 := hb5.size
    have hS5 : w5.cell? ⟨b, 4, none⟩ = some (.pointer (some ⟨x, 0, none⟩)) ∧ w5.cell? ⟨b, 5, none⟩ = some (.pointer (some ⟨y, 0, none⟩)) := ⟨(hb5.cell (p := ⟨b, 4, none⟩) hlt3).trans hS0.1, (hb5.cell (p := ⟨b, 5, none⟩) hlt3).trans hS0.2⟩
    have HC2 := Lib.hid (HCR.out w5 _ _ _ (HY4.out.below hb5 (Nat.le_refl _)) hO5 (by omega) (by have := HNL.out; have := HAL.out; have := HAR.out; omega) (tab0_base HTB4.out hb5 (by omega)))
    rw [ptr_some] at HC2
    have HB5 := Lib.hid (HB4.out.trans hb5)
    refine hK.out _ _ hS5 (fun _ => ?_)
    clear hK K hO5 hb5 HC1 HO4 HB4 HTB4 HX4 HY4 hS0 HCL HCR
    refine wpAnyH_ready (rs := [10]) (by kernel_rfl) (by simp) ?_
    refine AllReadyH.cons rfl (fun K hK => ?_) AllReadyH.nil
    go_simp
    refine HC2.out.mono ?_
    rintro e w6 ⟨v6, rfl, hO6, hb6⟩
    obtain ⟨A6, c6, rfl, hc6, _⟩ := hO6.form
    have hS6 : w6.cell? ⟨b, 4, none⟩ = some (.pointer (some ⟨x, 0, none⟩)) ∧ w6.cell? ⟨b, 5, none⟩ = some (.pointer (some ⟨y, 0, none⟩)) := ⟨(hb6.cell (p := ⟨b, 4, none⟩) hlt3).trans hS5.1, (hb6.cell (p := ⟨b, 5, none⟩) hlt3).trans hS5.2⟩
    have HO6 := Lib.hid hO6
    have HB6 := Lib.hid (HB5.out.trans hb6)
    refine hK.out _ _ hS6 (fun hHeld => ?_)
    clear hK K hO6 hb6 HC2 HB5 hS5
    refine wpAnyH_take (i := 11) (oi := { dst := some 4, op := Op.assign (Operand.tmp 29), type := 52, pos := "ref.go:141", after := #[{ on := 10, ground := Ground.data }, { on := 10, ground := Ground.chain }, { on := 0, ground := Ground.phase }, { on := 1, ground := Ground.phase }, { on := 2, ground := Ground.phase }, { on := 3, ground := Ground.phase }, { on := 4, ground := Ground.phase }, { on := 5, ground := Ground.phase }, { on := 6, ground := Ground.phase }, { on := 7, ground := Ground.phase }, { on := 8, ground := Ground.phase }, { on := 9, ground := Ground.phase }, { on := 10, ground := Ground.phase }], guard := none }) (v := ?_) rfl (by kernel_rfl) (by kernel_rfl) (by kernel_rfl) (fun _ _ _ h => h) (Or.inl ⟨by rfl, ?_⟩) (by assumption) ?_
    rotate_left
    · first | (intro w hSw; (try dsimp only at hSw); go_simp; done) | (intro w hSw; (try dsimp only at hSw); go_simp; with_reducible rfl)
    simp only [Act.put, List.setIfInBounds_toArray, List.set_cons_zero, List.set_cons_succ]
    refine wpAnyH_done (by kernel_rfl) ?_ _
    clear hHeld hS6
    go_wp2_with fail
    go_ret
    refine ⟨.slice A6 (m + 1 + l.all.length + r.all.length) c6, rfl, ?_, HB6.out⟩
    · have e1 : (T.node l r).all = T.node l r :: (l.all ++ r.all) := rfl
      rw [e1, List.length_cons, List.length_append, show m + (l.all.length + r.all.length + 1) = m + 1 + l.all.length + r.all.length by omega, show ts ++ (T.node l r :: (l.all ++ r.all)) = ts ++ [T.node l r] ++ l.all ++ r.all by simp]
      exact HO6.out

theorem rall_o (o : Option T) (p : Option Nat) (w : World) (h : RPIn w w.heap.size o p) (hn : oln o ≤ 1000) (ht : Sh.Tab w 0) (hw : 1 < w.heap.size) : Calls Tryd.prog 27 #[ptr p, .slice none 0 0] w (RAllPost w.heap.size (oall o).length (oall o) w) := by
  cases o with
  | none =>
    obtain rfl := h
    exact (rall_nil _ w).mono fun e w' ⟨h1, h2⟩ => by subst h1 h2; exact ⟨_, rfl, NPOwn.nil _ _, Below.refl _ _⟩
  | some t =>
    obtain ⟨b, rfl, h⟩ := h
    change t.n ≤ 1000 at hn
    have := rall_any w.heap.size hw t b w (.slice none 0 0) 0 [] h (NPOwn.nil _ _) (Nat.le_refl _) (by omega) ht
    rw [Nat.zero_add, List.nil_append] at this
    exact this

theorem z64_info : (Tryd.prog.info? 64).map (·.size) = some 68 := info64
set_option maxRecDepth 100000 in
set_option maxHeartbeats 1000000 in
theorem sameNodes_yes (A A' : Option Addr) (n c c' : Nat) (ts : List T) (w : World) (h : NRd w w.heap.size A n ts) (h' : NRd w w.heap.size A' n ts) (hn : n ≤ 1000000) :
    Calls Tryd.prog 25 #[.slice A n c, .slice A' n c'] w fun e w' => e = .returned (.bool true) ∧ Below w.heap.size w w' := by
  have HA := Lib.hid h
  have HA' := Lib.hid h'
  have HLEN := Lib.hid h.len
  clear h h'
  go_enter Tryd.func25, Tryd.ntmps25
  go_wp2_with fail
  go_loopg [5] n (fun gk s5 wx => ∃ i, i + gk = n ∧ s5 = .int .i64 (i : Nat) ∧ Below w.heap.size w wx)
  case atStart => exact ⟨0, by omega, rfl, Below.refl _ _⟩
  case round =>
    obtain ⟨i, hi, rfl, hb⟩ := hrel
    have HB := Lib.hid hb
    have hsw := hb.size
    clear hb
    cases gk with
    | zero =>
      obtain rfl : i = n := by omega
      go_wp2_with fail
      go_ret
      exact ⟨rfl, HB.out⟩
    | succ gn =>
      have hin : i < n := by omega
      obtain ⟨t, ht⟩ : ∃ t, ts[i]? = some t := ⟨_, List.getElem?_eq_getElem (by rw [HLEN.out]; exact hin)⟩
      obtain ⟨b1, o1, B1, q1, d1, B2, q2, d2, rfl, hb1, hr1, hqd1, hqd2, hk1, hv1⟩ := (HA.out.below HB.out (Nat.le_refl _)).at_ ht
      obtain ⟨b2, o2, E1, p1, f1, E2, p2, f2, rfl, hb2, hr2, hpf1, hpf2, hk2, hv2⟩ := (HA'.out.below HB.out (Nat.le_refl _)).at_ ht
      have HS := Lib.hid (sameNode_yes B1 B2 E1 E2 q1 d1 q2 d2 p1 f1 p2 f2 (t.h : Int) t.n t.lsum t.rsum t.key t.val wr.drew (lsum32 t) (rsum32 t) (hk1.more hsw) (hv1.more hsw) (hk2.more hsw) (hv2.more hsw))
      have HL1 := Lib.hid (ac_len (.slice B1 q1 d1) (.slice B2 q2 d2) t)
      have HL2 := Lib.hid (ac_len (.slice E1 p1 f1) (.slice E2 p2 f2) t)
      clear hk1 hv1 hk2 hv2 ht
      generalize acells (.slice B1 q1 d1) (.slice B2 q2 d2) t.h t.n t.lsum t.rsum = L1 at *
      generalize acells (.slice E1 p1 f1) (.slice E2 p2 f2) t.h t.n t.lsum t.rsum = L2 at *
      go_upto_region 6 with (fail)
      have hS0 : wr.drew.rangeAt b1 (o1 + i * 68) L1 ∧ wr.drew.rangeAt b2 (o2 + i * 68) L2 := ⟨hr1, hr2⟩
      refine wp_region_held_drew (S := fun u => u.rangeAt b1 (o1 + i * 68) L1 ∧ u.rangeAt b2 (o2 + i * 68) L2) (by kernel_rfl) hS0 (fun hHeld => ?_)
      refine wpAnyH_take (i := 0) (oi := { dst := some 17, op := Op.move (Operand.tmp 0), type := 52, pos := "ref.go:178", after := #[], guard := none }) (v := ?_) rfl (by kernel_rfl) (by kernel_rfl) (by kernel_rfl) (fun _ _ _ h => h) (Or.inl ⟨by rfl, ?_⟩) (by assumption) ?_
      rotate_left
      · first | (intro w hSw; (try dsimp only at hSw); go_simp; done) | (intro w hSw; (try dsimp only at hSw); go_simp; with_reducible rfl)
      simp only [Act.put, List.setIfInBounds_toArray, List.set_cons_zero, List.set_cons_succ]
      refine wpAnyH_take (i := 1) (oi := { dst := some 18, op := Op.move (Operand.tmp 5), type := 3, pos := "ref.go:178", after := #[], guard := none }) (v := ?_) rfl (by kernel_rfl) (by kernel_rfl) (by kernel_rfl) (fun _ _ _ h => h) (Or.inl ⟨by rfl, ?_⟩) (by assumption) ?_
      rotate_left
      · first | (intro w hSw; (try dsimp only at hSw); go_simp; done) | (intro w hSw; (try dsimp only at hSw); go_simp; with_reducible rfl)
      simp only [Act.put, List.setIfInBounds_toArray, List.set_cons_zero, List.set_cons_succ]
      refine wpAnyH_take (i := 2) (oi := { dst := some 19, op := Op.indexAddr 52 (Operand.tmp 17) (Operand.tmp 18), type := 0, pos := "ref.go:178", after := #[{ on := 0, ground := Ground.data }, { on := 1, ground := Ground.data }], guard := none }) (v := ?_) rfl (by kernel_rfl) (by kernel_rfl) (by kernel_rfl) (fun _ _ _ h => h) (Or.inl ⟨by rfl, ?_⟩) (by assumption) ?_
      rotate_left
      · first | (intro w hSw; (try dsimp only at hSw); go_simp; done) | (intro w hSw; (try dsimp only at hSw); go_simp; with_reducible rfl)
      simp only [Act.put, List.setIfInBounds_toArray, List.set_cons_zero, List.set_cons_succ]
      refine wpAnyH_take (i := 3) (oi := { dst := some 20, op := Op.load 64 (Operand.tmp 19), type := 64, pos := "ref.go:178", after := #[{ on := 2, ground := Ground.data }], guard := none }) (v := .agg L1.toArray) rfl (by kernel_rfl) (by kernel_rfl) (by kernel_rfl) (fun _ _ _ h => h) (yieldsIf_load_mid (by rfl) 64 (.tmp 19) rfl b1 (o1 + i * 68) rfl L1 _ (fun _ h => h.1) Tryd.underlying64 rfl (by rw [HL1.out]; exact info64)) (by assumption) ?_
      simp only [Act.put, List.setIfInBounds_toArray, List.set_cons_zero, List.set_cons_succ]
      refine wpAnyH_take (i := 4) (oi := { dst := some 21, op := Op.move (Operand.tmp 1), type := 52, pos := "ref.go:178", after := #[], guard := none }) (v := ?_) rfl (by kernel_rfl) (by kernel_rfl) (by kernel_rfl) (fun _ _ _ h => h) (Or.inl ⟨by rfl, ?_⟩) (by assumption) ?_
      rotate_left
      · first | (intro w hSw; (try dsimp only at hSw); go_simp; done) | (intro w hSw; (try dsimp only at hSw); go_simp; with_reducible rfl)
      simp only [Act.put, List.setIfInBounds_toArray, List.set_cons_zero, List.set_cons_succ]
      refine wpAnyH_take (i := 5) (oi := { dst := some 22, op := Op.move (Operand.tmp 5), type := 3, pos := "ref.go:178", after := #[], guard := none }) (v := ?_) rfl (by kernel_rfl) (by kernel_rfl) (by kernel_rfl) (fun _ _ _ h => h) (Or.inl ⟨by rfl, ?_⟩) (by assumption) ?_
      rotate_left
      · first | (intro w hSw; (try dsimp only at hSw); go_simp; done) | (intro w hSw; (try dsimp only at hSw); go_simp; with_reducible rfl)
      simp only [Act.put, List.setIfInBounds_toArray, List.set_cons_zero, List.set_cons_succ]
      refine wpAnyH_take (i := 6) (oi := { dst := some 23, op := Op.indexAddr 52 (Operand.tmp 21) (Operand.tmp 22), type := 0, pos := "ref.go:178", after := #[{ on := 4, ground := Ground.data }, { on := 5, ground := Ground.data }], guard := none }) (v := ?_) rfl (by kernel_rfl) (by kernel_rfl) (by kernel_rfl) (fun _ _ _ h => h) (Or.inl ⟨by rfl, ?_⟩) (by assumption) ?_
      rotate_left
      · first | (intro w hSw; (try dsimp only at hSw); go_simp; done) | (intro w hSw; (try dsimp only at hSw); go_simp; with_reducible rfl)
      simp only [Act.put, List.setIfInBounds_toArray, List.set_cons_zero, List.set_cons_succ]
      refine wpAnyH_take (i := 7) (oi := { dst := some 24, op := Op.load 64 (Operand.tmp 23), type := 64, pos := "ref.go:178", after := #[{ on := 6, ground := Ground.data }], guard := none }) (v := .agg L2.toArray) rfl (by kernel_rfl) (by kernel_rfl) (by kernel_rfl) (fun _ _ _ h => h) (yieldsIf_load_mid (by rfl) 64 (.tmp 23) rfl b2 (o2 + i * 68) rfl L2 _ (fun _ h => h.2) Tryd.underlying64 rfl (by rw [HL2.out]; exact info64)) (by assumption) ?_
      simp only [Act.put, List.setIfInBounds_toArray, List.set_cons_zero, List.set_cons_succ]
      have HSd : Hid (Calls Tryd.prog 31 #[.agg L1.toArray, .agg L2.toArray] wr.drew fun e w' => e = .returned (.bool true) ∧ Below wr.drew.heap.size wr.drew w') := Lib.hid HS.out
      have HBd : Hid (Below w.heap.size w wr.drew) := Lib.hid HB.out.drew
      clear hHeld hS0 HB HS
      have hr1' : wr.drew.rangeAt b1 (o1 + i * 68) L1 := hr1
      have hr2' : wr.drew.rangeAt b2 (o2 + i * 68) L2 := hr2
      have hsd : w.heap.size ≤ wr.drew.heap.size := hsw
      clear hr1 hr2 hsw
      generalize wr.drew = wd at *
      refine wpAnyH_ready (rs := [8]) (by kernel_rfl) (by simp) ?_
      refine AllReadyH.cons rfl (fun K hK => ?_) AllReadyH.nil
      go_simp
      refine HSd.out.mono ?_
      rintro e w5 ⟨rfl, hb5⟩
      have hS5 : w5.rangeAt b1 (o1 + i * 68) L1 ∧ w5.rangeAt b2 (o2 + i * 68) L2 := ⟨fun j v hv => (hb5.cell (p := ⟨b1, o1 + i * 68 + j, none⟩) (by show b1 < _; omega)).trans (hr1' j v hv), fun j v hv => (hb5.cell (p := ⟨b2, o2 + i * 68 + j, none⟩) (by show b2 < _; omega)).trans (hr2' j v hv)⟩
      have HB5 := Lib.hid (HBd.out.trans (hb5.mono hsd))
      refine hK.out _ _ hS5 (fun hHeld => ?_)
      clear hK K hb5 HSd HBd hr1' hr2'
      refine wpAnyH_take (i := 9) (oi := { dst := some 26, op := Op.unOp UnOp.not 4 (Operand.tmp 25), type := 4, pos := "ref.go:178", after := #[{ on := 8, ground := Ground.data }], guard := none }) (v := ?_) rfl (by kernel_rfl) (by kernel_rfl) (by kernel_rfl) (fun _ _ _ h => h) (Or.inl ⟨by rfl, ?_⟩) (by assumption) ?_
      rotate_left
      · first | (intro w hSw; (try dsimp only at hSw); go_simp; done) | (intro w hSw; (try dsimp only at hSw); go_simp; with_reducible rfl)
      simp only [Act.put, List.setIfInBounds_toArray, List.set_cons_zero, List.set_cons_succ]
      refine wpAnyH_done (by kernel_rfl) ?_ _
      clear hHeld hS5
      go_wp2_with fail
      go_roundg gn
      case measure => omega
      case rel => exact ⟨i + 1, by omega, congrArg (Value.int .i64) (by omega), HB5.out⟩
end Go.Proofs.YtbhmldoehgkhfaaDoor
