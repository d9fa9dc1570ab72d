/-
  What the document's balanced returns: a balanced node above two; conditions: both lie in memory, their leaves are no more than 4294967296. It only makes memory of its own.
-/
import Derived.Test.YtbhmldoehgkhfaaDoorRNode
namespace Go.Proofs.YtbhmldoehgkhfaaDoor
open Go.RowKit
open Tr

set_option maxRecDepth 100000 in
set_option maxHeartbeats 2000000 in
theorem rbal_any (l r : T) (bl br : Nat) (w : World) (hl : RIn w w.heap.size l bl) (hr : RIn w w.heap.size r br) (hn : l.n + r.n ≤ 4294967296) : Calls Tryd.prog 43 #[ptr (some bl), ptr (some br)] w (RNodePost (bal l r) w) := by
  have cl := hl.high (Below.refl _ _)
  have cr := hr.high (Below.refl _ _)
  have HL := Lib.hid hl
  have HR := Lib.hid hr
  have h1 := T.h_lt l
  have h2 := T.h_lt r
  have i1 : IntKind.i64.wrap ((l.h : Int) + 1) = (l.h : Int) + 1 := IntWalk.i64_in _ (by omega)
  have i2 : IntKind.i64.wrap ((r.h : Int) + 1) = (r.h : Int) + 1 := IntWalk.i64_in _ (by omega)
  rw [ptr_some, ptr_some]
  by_cases ha : r.h + 1 < l.h
  · obtain ⟨a, m, rfl⟩ : ∃ a m, l = .node a m := T.node_of_h (by omega)
    have HG : Hid (bal (.node a m) r = leanL a m r) := Lib.hid (by unfold bal; rw [if_pos ha])
    rw [HG.out]
    have q1 : decide ((r.h : Int) + 1 < ((T.node a m).h : Int)) = true := by simp; omega
    change a.n + m.n + r.n ≤ _ at hn
    obtain ⟨A, n, c, A', n', c', x, y, hh, hx, hy⟩ := hl
    obtain ⟨c4, c5⟩ := hh.sides (Below.refl _ _)
    have ca := hx.high (Below.refl _ _)
    have cm := hy.high (Below.refl _ _)
    have HH := Lib.hid hh
    have HX := Lib.hid hx
    have HY := Lib.hid hy
    clear ha HG hh hx hy hr h1 h2
    generalize (T.node a m).h = lh at *
    generalize r.h = rh at *
    by_cases hlt : a.h < m.h
    · obtain ⟨p, q, rfl⟩ : ∃ p q, m = .node p q := T.node_of_h (by omega)
      have hq : decide (a.h < (T.node p q).h) = true := by simpa using hlt
      have HG : Hid (leanL a (.node p q) r = .node (.node a p) (.node q r)) := Lib.hid (by unfold leanL; rw [if_pos hlt])
      rw [HG.out]
      obtain ⟨Am, nm, cm', Am', nm', cm'', xp, yp, hm, hp, hq2⟩ := HY.out
      have HM := Lib.hid hm
      have HP := Lib.hid hp
      have HQ := Lib.hid hq2
      change a.n + (p.n + q.n) + r.n ≤ _ at hn
      clear hm hp hq2 HG hlt
      have HSD : Hid (∀ u, Below w.heap.size w u → u.cell? ⟨bl, 4, none⟩ = some (.pointer (some ⟨x, 0, none⟩)) ∧ u.cell? ⟨y, 4, none⟩ = some (.pointer (some ⟨xp, 0, none⟩)) ∧ u.cell? ⟨y, 5, none⟩ = some (.pointer (some ⟨yp, 0, none⟩))) := Lib.hid (fun u hu => ⟨(HH.out.sides hu).1, HM.out.sides hu⟩)
      generalize (T.node p q).h = mh at *
      generalize a.h = ah at *
      go_enter Tryd.func43, Tryd.ntmps43
      go_wp2_with fail
      go_quiet (fail)
      rename Nat => nq1
      go_wp2_with fail
      go_quiet (fail)
      rename Nat => nq2
      have HBQ : Hid (Below w.heap.size w ((w.drewN nq1).drewN nq2)) := Lib.hid (below_drewN (below_drewN (Below.refl _ _) _) _)
      have c5' : ((w.drewN nq1).drewN nq2).cell? ⟨bl, 5, none⟩ = some (.pointer (some ⟨y, 0, none⟩)) := c5
      clear c4 c5 ca cm cl cr q1 hq i1 i2
      generalize (w.drewN nq1).drewN nq2 = wq at *
      go_upto_region 4 with (fail)
      have hbd : Below w.heap.size w wq.drew := HBQ.out.drew
      have hS0 := HSD.out wq.drew hbd
      refine wp_region_held_drew (S := fun u => u.cell? ⟨bl, 4, none⟩ = some (.pointer (some ⟨x, 0, none⟩)) ∧ u.cell? ⟨y, 4, none⟩ = some (.pointer (some ⟨xp, 0, none⟩)) ∧ u.cell? ⟨y, 5, none⟩ = some (.pointer (some ⟨yp, 0, none⟩))) (by kernel_rfl) hS0 (fun hHeld => ?_)
      refine wpAnyH_take (i := 0) (oi := { dst := some 36, op := Op.move (Operand.tmp 0), type := 26, pos := "ref.go:67", after := #[], guard := none }) (v := ?_) rfl (by kernel_rfl) (by kernel_rfl) (by kernel_rfl) (fun _ _ _ h => h) (Or.inl ⟨by rfl, ?_⟩) (by assumption) ?_
      rotate_left
      · first | (intro w hSw; (try dsimp only at hSw); go_simp; done) | (intro w hSw; (try dsimp only at hSw); go_simp; with_reducible rfl)
      simp only [Act.put, List.setIfInBounds_toArray, List.set_cons_zero, List.set_cons_succ]
      refine wpAnyH_take (i := 1) (oi := { dst := some 37, op := Op.nilCheck (Operand.tmp 36), type := 0, pos := "ref.go:67", after := #[{ on := 0, ground := Ground.data }], guard := none }) (v := ?_) rfl (by kernel_rfl) (by kernel_rfl) (by kernel_rfl) (fun _ _ _ h => h) (Or.inl ⟨by rfl, ?_⟩) (by assumption) ?_
      rotate_left
      · first | (intro w hSw; (try dsimp only at hSw); go_simp; done) | (intro w hSw; (try dsimp only at hSw); go_simp; with_reducible rfl)
      simp only [Act.put, List.setIfInBounds_toArray, List.set_cons_zero, List.set_cons_succ]
      refine wpAnyH_take (i := 2) (oi := { dst := some 38, op := Op.fieldAddr 62 (Operand.tmp 37) 4, type := 0, pos := "ref.go:67", after := #[{ on := 1, ground := Ground.data }], guard := none }) (v := ?_) rfl (by kernel_rfl) (by kernel_rfl) (by kernel_rfl) (fun _ _ _ h => h) (Or.inl ⟨by rfl, ?_⟩) (by assumption) ?_
      rotate_left
      · first | (intro w hSw; (try dsimp only at hSw); go_simp; done) | (intro w hSw; (try dsimp only at hSw); go_simp; with_reducible rfl)
      simp only [Act.put, List.setIfInBounds_toArray, List.set_cons_zero, List.set_cons_succ]
      refine wpAnyH_take (i := 3) (oi := { dst := some 39, op := Op.load 26 (Operand.tmp 38), type := 26, pos := "ref.go:67", after := #[{ on := 2, ground := Ground.data }], guard := none }) (v := ?_) rfl (by kernel_rfl) (by kernel_rfl) (by kernel_rfl) (fun _ _ _ h => h) (Or.inl ⟨by rfl, ?_⟩) (by assumption) ?_
      rotate_left
      · first | (intro w hSw; (try dsimp only at hSw); go_simp; done) | (intro w hSw; (try dsimp only at hSw); go_simp; with_reducible rfl)
      simp only [Act.put, List.setIfInBounds_toArray, List.set_cons_zero, List.set_cons_succ]
      refine wpAnyH_take (i := 4) (oi := { dst := some 40, op := Op.move (Operand.tmp 5), type := 26, pos := "ref.go:67", after := #[], guard := none }) (v := ?_) rfl (by kernel_rfl) (by kernel_rfl) (by kernel_rfl) (fun _ _ _ h => h) (Or.inl ⟨by rfl, ?_⟩) (by assumption) ?_
      rotate_left
      · first | (intro w hSw; (try dsimp only at hSw); go_simp; done) | (intro w hSw; (try dsimp only at hSw); go_simp; with_reducible rfl)
      simp only [Act.put, List.setIfInBounds_toArray, List.set_cons_zero, List.set_cons_succ]
      refine wpAnyH_take (i := 5) (oi := { dst := some 41, op := Op.nilCheck (Operand.tmp 40), type := 0, pos := "ref.go:67", after := #[{ on := 4, ground := Ground.data }], guard := none }) (v := ?_) rfl (by kernel_rfl) (by kernel_rfl) (by kernel_rfl) (fun _ _ _ h => h) (Or.inl ⟨by rfl, ?_⟩) (by assumption) ?_
      rotate_left
      · first | (intro w hSw; (try dsimp only at hSw); go_simp; done) | (intro w hSw; (try dsimp only at hSw); go_simp; with_reducible rfl)
      simp only [Act.put, List.setIfInBounds_toArray, List.set_cons_zero, List.set_cons_succ]
      refine wpAnyH_take (i := 6) (oi := { dst := some 42, op := Op.fieldAddr 62 (Operand.tmp 41) 4, type := 0, pos := "ref.go:67", after := #[{ on := 5, ground := Ground.data }], guard := none }) (v := ?_) rfl (by kernel_rfl) (by kernel_rfl) (by kernel_rfl) (fun _ _ _ h => h) (Or.inl ⟨by rfl, ?_⟩) (by assumption) ?_
      rotate_left
      · first | (intro w hSw; (try dsimp only at hSw); go_simp; done) | (intro w hSw; (try dsimp only at hSw); go_simp; with_reducible rfl)
      simp only [Act.put, List.setIfInBounds_toArray, List.set_cons_zero, List.set_cons_succ]
      refine wpAnyH_take (i := 7) (oi := { dst := some 43, op := Op.load 26 (Operand.tmp 42), type := 26, pos := "ref.go:67", after := #[{ on := 6, ground := Ground.data }], guard := none }) (v := ?_) rfl (by kernel_rfl) (by kernel_rfl) (by kernel_rfl) (fun _ _ _ h => h) (Or.inl ⟨by rfl, ?_⟩) (by assumption) ?_
      rotate_left
      · first | (intro w hSw; (try dsimp only at hSw); go_simp; done) | (intro w hSw; (try dsimp only at hSw); go_simp; with_reducible rfl)
      simp only [Act.put, List.setIfInBounds_toArray, List.set_cons_zero, List.set_cons_succ]
      refine wpAnyH_take (i := 9) (oi := { dst := some 45, op := Op.move (Operand.tmp 5), type := 26, pos := "ref.go:67", after := #[], guard := none }) (v := ?_) rfl (by kernel_rfl) (by kernel_rfl) (by kernel_rfl) (fun _ _ _ h => h) (Or.inl ⟨by rfl, ?_⟩) (by assumption) ?_
      rotate_left
      · first | (intro w hSw; (try dsimp only at hSw); go_simp; done) | (intro w hSw; (try dsimp only at hSw); go_simp; with_reducible rfl)
      simp only [Act.put, List.setIfInBounds_toArray, List.set_cons_zero, List.set_cons_succ]
      refine wpAnyH_take (i := 10) (oi := { dst := some 46, op := Op.nilCheck (Operand.tmp 45), type := 0, pos := "ref.go:67", after := #[{ on := 9, ground := Ground.data }], guard := none }) (v := ?_) rfl (by kernel_rfl) (by kernel_rfl) (by kernel_rfl) (fun _ _ _ h => h) (Or.inl ⟨by rfl, ?_⟩) (by assumption) ?_
      rotate_left
      · first | (intro w hSw; (try dsimp only at hSw); go_simp; done) | (intro w hSw; (try dsimp only at hSw); go_simp; with_reducible rfl)
      simp only [Act.put, List.setIfInBounds_toArray, List.set_cons_zero, List.set_cons_succ]
      refine wpAnyH_take (i := 11) (oi := { dst := some 47, op := Op.fieldAddr 62 (Operand.tmp 46) 5, type := 0, pos := "ref.go:67", after := #[{ on := 10, ground := Ground.data }], guard := none }) (v := ?_) rfl (by kernel_rfl) (by kernel_rfl) (by kernel_rfl) (fun _ _ _ h => h) (Or.inl ⟨by rfl, ?_⟩) (by assumption) ?_
      rotate_left
      · first | (intro w hSw; (try dsimp only at hSw); go_simp; done) | (intro w hSw; (try dsimp only at hSw); go_simp; with_reducible rfl)
      simp only [Act.put, List.setIfInBounds_toArray, List.set_cons_zero, List.set_cons_succ]
      refine wpAnyH_take (i := 12) (oi := { dst := some 48, op := Op.load 26 (Operand.tmp 47), type := 26, pos := "ref.go:67", after := #[{ on := 11, ground := Ground.data }], guard := none }) (v := ?_) rfl (by kernel_rfl) (by kernel_rfl) (by kernel_rfl) (fun _ _ _ h => h) (Or.inl ⟨by rfl, ?_⟩) (by assumption) ?_
      rotate_left
      · first | (intro w hSw; (try dsimp only at hSw); go_simp; done) | (intro w hSw; (try dsimp only at hSw); go_simp; with_reducible rfl)
      simp only [Act.put, List.setIfInBounds_toArray, List.set_cons_zero, List.set_cons_succ]
      refine wpAnyH_take (i := 13) (oi := { dst := some 49, op := Op.move (Operand.tmp 1), type := 26, pos := "ref.go:67", after := #[], guard := none }) (v := ?_) rfl (by kernel_rfl) (by kernel_rfl) (by kernel_rfl) (fun _ _ _ h => h) (Or.inl ⟨by rfl, ?_⟩) (by assumption) ?_
      rotate_left
      · first | (intro w hSw; (try dsimp only at hSw); go_simp; done) | (intro w hSw; (try dsimp only at hSw); go_simp; with_reducible rfl)
      simp only [Act.put, List.setIfInBounds_toArray, List.set_cons_zero, List.set_cons_succ]
      clear hHeld hS0 HBQ
      generalize wq.drew = w1 at *
      have HC := Lib.hid (rabove_any (a) (p) x xp w1 (HX.out.on hbd) (HP.out.on hbd) (by (try simp only [T.n]); omega))
      rw [ptr_some, ptr_some] at HC
      refine wpAnyH_ready (rs := [8]) (by kernel_rfl) (by simp) ?_
      refine AllReadyH.cons rfl (fun K hK => ?_) AllReadyH.nil
      go_simp
      refine HC.out.mono ?_
      rintro e w2 ⟨c0, rfl, hN0, hbl⟩
      rw [ptr_some]
      have HN0 := Lib.hid hN0
      have hbw2 := hbd.trans (hbl.mono hbd.size)
      have hHeld := HSD.out w2 hbw2
      refine hK.out _ _ hHeld (fun _ => ?_)
      clear hK K HC hN0 hbl hbd
      clear hHeld
      have HC := Lib.hid (rabove_any (q) (r) yp br w2 (HQ.out.on hbw2) (HR.out.on hbw2) (by (try simp only [T.n]); omega))
      rw [ptr_some, ptr_some] at HC
      refine wpAnyH_ready (rs := [14]) (by kernel_rfl) (by simp) ?_
      refine AllReadyH.cons rfl (fun K hK => ?_) AllReadyH.nil
      go_simp
      refine HC.out.mono ?_
      rintro e w3 ⟨c1, rfl, hN1, hbl⟩
      rw [ptr_some]
      have HN1 := Lib.hid hN1
      replace HN0 := Lib.hid (HN0.out.on hbl)
      have hbw3 := hbw2.trans (hbl.mono hbw2.size)
      have hHeld := HSD.out w3 hbw3
      refine hK.out _ _ hHeld (fun _ => ?_)
      clear hK K HC hN1 hbl hbw2
      clear hHeld
      have HC := Lib.hid (rabove_any (.node a p) (.node q r) c0 c1 w3 HN0.out HN1.out (by (try simp only [T.n]); omega))
      rw [ptr_some, ptr_some] at HC
      refine wpAnyH_ready (rs := [15]) (by kernel_rfl) (by simp) ?_
      refine AllReadyH.cons rfl (fun K hK => ?_) AllReadyH.nil
      go_simp
      refine HC.out.mono ?_
      rintro e w4 ⟨c2, rfl, hN2, hbl⟩
      rw [ptr_some]
      have HN2 := Lib.hid hN2
      replace HN0 := Lib.hid (HN0.out.on hbl)
      replace HN1 := Lib.hid (HN1.out.on hbl)
      have hbw4 := hbw3.trans (hbl.mono hbw3.size)
      have hHeld := HSD.out w4 hbw4
      refine hK.out _ _ hHeld (fun _ => ?_)
      clear hK K HC hN2 hbl hbw3
      refine wpAnyH_take (i := 16) (oi := { dst := some 4, op := Op.assign (Operand.tmp 51), type := 26, pos := "ref.go:67", after := #[{ on := 15, ground := Ground.data }, { on := 15, ground := Ground.chain }, { on := 0, ground := Ground.phase }, { on := 1, ground := Ground.phase }, { on := 2, ground := Ground.phase }, { on := 3, ground := Ground.phase }, { on := 4, ground := Ground.phase }, { on := 5, ground := Ground.phase }, { on := 6, ground := Ground.phase }, { on := 7, ground := Ground.phase }, { on := 8, ground := Ground.phase }, { on := 9, ground := Ground.phase }, { on := 10, ground := Ground.phase }, { on := 11, ground := Ground.phase }, { on := 12, ground := Ground.phase }, { on := 13, ground := Ground.phase }, { on := 14, ground := Ground.phase }, { on := 15, ground := Ground.phase }], guard := none }) (v := ?_) rfl (by kernel_rfl) (by kernel_rfl) (by kernel_rfl) (fun _ _ _ h => h) (Or.inl ⟨by rfl, ?_⟩) (by assumption) ?_
      rotate_left
      · first | (intro w hSw; (try dsimp only at hSw); go_simp; done) | (intro w hSw; (try dsimp only at hSw); go_simp; with_reducible rfl)
      simp only [Act.put, List.setIfInBounds_toArray, List.set_cons_zero, List.set_cons_succ]
      refine wpAnyH_done (by kernel_rfl) ?_ _
      have HBF := Lib.hid hbw4
      clear hHeld hbw4
      go_wp2_with fail
      go_ret
      exact ⟨c2, rfl, HN2.out, HBF.out⟩
    · have hq : decide (a.h < m.h) = false := by simpa using hlt
      have HG : Hid (leanL a m r = .node a (.node m r)) := Lib.hid (by unfold leanL; rw [if_neg hlt])
      rw [HG.out]
      clear HG hlt
      have HSD : Hid (∀ u, Below w.heap.size w u → u.cell? ⟨bl, 4, none⟩ = some (.pointer (some ⟨x, 0, none⟩)) ∧ u.cell? ⟨bl, 5, none⟩ = some (.pointer (some ⟨y, 0, none⟩))) := Lib.hid (fun u hu => HH.out.sides hu)
      generalize m.h = mh at *
      generalize a.h = ah at *
      go_enter Tryd.func43, Tryd.ntmps43
      go_wp2_with fail
      go_quiet (fail)
      rename Nat => nq1
      go_wp2_with fail
      go_quiet (fail)
      rename Nat => nq2
      have HBQ : Hid (Below w.heap.size w ((w.drewN nq1).drewN nq2)) := Lib.hid (below_drewN (below_drewN (Below.refl _ _) _) _)
      clear c4 c5 ca cm cl cr q1 hq i1 i2
      generalize (w.drewN nq1).drewN nq2 = wq at *
      go_upto_region 5 with (fail)
      have hbd : Below w.heap.size w wq.drew := HBQ.out.drew
      have hS0 := HSD.out wq.drew hbd
      refine wp_region_held_drew (S := fun u => u.cell? ⟨bl, 4, none⟩ = some (.pointer (some ⟨x, 0, none⟩)) ∧ u.cell? ⟨bl, 5, none⟩ = some (.pointer (some ⟨y, 0, none⟩))) (by kernel_rfl) hS0 (fun hHeld => ?_)
      refine wpAnyH_take (i := 0) (oi := { dst := some 52, op := Op.move (Operand.tmp 0), type := 26, pos := "ref.go:69", after := #[], guard := none }) (v := ?_) rfl (by kernel_rfl) (by kernel_rfl) (by kernel_rfl) (fun _ _ _ h => h) (Or.inl ⟨by rfl, ?_⟩) (by assumption) ?_
      rotate_left
      · first | (intro w hSw; (try dsimp only at hSw); go_simp; done) | (intro w hSw; (try dsimp only at hSw); go_simp; with_reducible rfl)
      simp only [Act.put, List.setIfInBounds_toArray, List.set_cons_zero, List.set_cons_succ]
      refine wpAnyH_take (i := 1) (oi := { dst := some 53, op := Op.nilCheck (Operand.tmp 52), type := 0, pos := "ref.go:69", after := #[{ on := 0, ground := Ground.data }], guard := none }) (v := ?_) rfl (by kernel_rfl) (by kernel_rfl) (by kernel_rfl) (fun _ _ _ h => h) (Or.inl ⟨by rfl, ?_⟩) (by assumption) ?_
      rotate_left
      · first | (intro w hSw; (try dsimp only at hSw); go_simp; done) | (intro w hSw; (try dsimp only at hSw); go_simp; with_reducible rfl)
      simp only [Act.put, List.setIfInBounds_toArray, List.set_cons_zero, List.set_cons_succ]
      refine wpAnyH_take (i := 2) (oi := { dst := some 54, op := Op.fieldAddr 62 (Operand.tmp 53) 4, type := 0, pos := "ref.go:69", after := #[{ on := 1, ground := Ground.data }], guard := none }) (v := ?_) rfl (by kernel_rfl) (by kernel_rfl) (by kernel_rfl) (fun _ _ _ h => h) (Or.inl ⟨by rfl, ?_⟩) (by assumption) ?_
      rotate_left
      · first | (intro w hSw; (try dsimp only at hSw); go_simp; done) | (intro w hSw; (try dsimp only at hSw); go_simp; with_reducible rfl)
      simp only [Act.put, List.setIfInBounds_toArray, List.set_cons_zero, List.set_cons_succ]
      refine wpAnyH_take (i := 3) (oi := { dst := some 55, op := Op.load 26 (Operand.tmp 54), type := 26, pos := "ref.go:69", after := #[{ on := 2, ground := Ground.data }], guard := none }) (v := ?_) rfl (by kernel_rfl) (by kernel_rfl) (by kernel_rfl) (fun _ _ _ h => h) (Or.inl ⟨by rfl, ?_⟩) (by assumption) ?_
      rotate_left
      · first | (intro w hSw; (try dsimp only at hSw); go_simp; done) | (intro w hSw; (try dsimp only at hSw); go_simp; with_reducible rfl)
      simp only [Act.put, List.setIfInBounds_toArray, List.set_cons_zero, List.set_cons_succ]
      refine wpAnyH_take (i := 4) (oi := { dst := some 56, op := Op.move (Operand.tmp 0), type := 26, pos := "ref.go:69", after := #[], guard := none }) (v := ?_) rfl (by kernel_rfl) (by kernel_rfl) (by kernel_rfl) (fun _ _ _ h => h) (Or.inl ⟨by rfl, ?_⟩) (by assumption) ?_
      rotate_left
      · first | (intro w hSw; (try dsimp only at hSw); go_simp; done) | (intro w hSw; (try dsimp only at hSw); go_simp; with_reducible rfl)
      simp only [Act.put, List.setIfInBounds_toArray, List.set_cons_zero, List.set_cons_succ]
      refine wpAnyH_take (i := 5) (oi := { dst := some 57, op := Op.nilCheck (Operand.tmp 56), type := 0, pos := "ref.go:69", after := #[{ on := 4, ground := Ground.data }], guard := none }) (v := ?_) rfl (by kernel_rfl) (by kernel_rfl) (by kernel_rfl) (fun _ _ _ h => h) (Or.inl ⟨by rfl, ?_⟩) (by assumption) ?_
      rotate_left
      · first | (intro w hSw; (try dsimp only at hSw); go_simp; done) | (intro w hSw; (try dsimp only at hSw); go_simp; with_reducible rfl)
      simp only [Act.put, List.setIfInBounds_toArray, List.set_cons_zero, List.set_cons_succ]
      refine wpAnyH_take (i := 6) (oi := { dst := some 58, op := Op.fieldAddr 62 (Operand.tmp 57) 5, type := 0, pos := "ref.go:69", after := #[{ on := 5, ground := Ground.data }], guard := none }) (v := ?_) rfl (by kernel_rfl) (by kernel_rfl) (by kernel_rfl) (fun _ _ _ h => h) (Or.inl ⟨by rfl, ?_⟩) (by assumption) ?_
      rotate_left
      · first | (intro w hSw; (try dsimp only at hSw); go_simp; done) | (intro w hSw; (try dsimp only at hSw); go_simp; with_reducible rfl)
      simp only [Act.put, List.setIfInBounds_toArray, List.set_cons_zero, List.set_cons_succ]
      refine wpAnyH_take (i := 7) (oi := { dst := some 59, op := Op.load 26 (Operand.tmp 58), type := 26, pos := "ref.go:69", after := #[{ on := 6, ground := Ground.data }], guard := none }) (v := ?_) rfl (by kernel_rfl) (by kernel_rfl) (by kernel_rfl) (fun _ _ _ h => h) (Or.inl ⟨by rfl, ?_⟩) (by assumption) ?_
      rotate_left
      · first | (intro w hSw; (try dsimp only at hSw); go_simp; done) | (intro w hSw; (try dsimp only at hSw); go_simp; with_reducible rfl)
      simp only [Act.put, List.setIfInBounds_toArray, List.set_cons_zero, List.set_cons_succ]
      refine wpAnyH_take (i := 8) (oi := { dst := some 60, op := Op.move (Operand.tmp 1), type := 26, pos := "ref.go:69", after := #[], guard := none }) (v := ?_) rfl (by kernel_rfl) (by kernel_rfl) (by kernel_rfl) (fun _ _ _ h => h) (Or.inl ⟨by rfl, ?_⟩) (by assumption) ?_
      rotate_left
      · first | (intro w hSw; (try dsimp only at hSw); go_simp; done) | (intro w hSw; (try dsimp only at hSw); go_simp; with_reducible rfl)
      simp only [Act.put, List.setIfInBounds_toArray, List.set_cons_zero, List.set_cons_succ]
      clear hHeld hS0 HBQ
      generalize wq.drew = w1 at *
      have HC := Lib.hid (rabove_any (m) (r) y br w1 (HY.out.on hbd) (HR.out.on hbd) (by (try simp only [T.n]); omega))
      rw [ptr_some, ptr_some] at HC
      refine wpAnyH_ready (rs := [9]) (by kernel_rfl) (by simp) ?_
      refine AllReadyH.cons rfl (fun K hK => ?_) AllReadyH.nil
      go_simp
      refine HC.out.mono ?_
      rintro e w2 ⟨c0, rfl, hN0, hbl⟩
      rw [ptr_some]
      have HN0 := Lib.hid hN0
      have hbw2 := hbd.trans (hbl.mono hbd.size)
      have hHeld := HSD.out w2 hbw2
      refine hK.out _ _ hHeld (fun _ => ?_)
      clear hK K HC hN0 hbl hbd
      clear hHeld
      have HC := Lib.hid (rabove_any (a) (.node m r) x c0 w2 (HX.out.on hbw2) HN0.out (by (try simp only [T.n]); omega))
      rw [ptr_some, ptr_some] at HC
      refine wpAnyH_ready (rs := [10]) (by kernel_rfl) (by simp) ?_
      refine AllReadyH.cons rfl (fun K hK => ?_) AllReadyH.nil
      go_simp
      refine HC.out.mono ?_
      rintro e w3 ⟨c1, rfl, hN1, hbl⟩
      rw [ptr_some]
      have HN1 := Lib.hid hN1
      replace HN0 := Lib.hid (HN0.out.on hbl)
      have hbw3 := hbw2.trans (hbl.mono hbw2.size)
      have hHeld := HSD.out w3 hbw3
      refine hK.out _ _ hHeld (fun _ => ?_)
      clear hK K HC hN1 hbl hbw2
      refine wpAnyH_take (i := 11) (oi := { dst := some 4, op := Op.assign (Operand.tmp 62), type := 26, pos := "ref.go:69", after := #[{ on := 10, ground := Ground.data }, { on := 10, ground := Ground.chain }, { on := 0, ground := Ground.phase }, { on := 1, ground := Ground.phase }, { on := 2, ground := Ground.phase }, { on := 3, ground := Ground.phase }, { on := 4, ground := Ground.phase }, { on := 5, ground := Ground.phase }, { on := 6, ground := Ground.phase }, { on := 7, ground := Ground.phase }, { on := 8, ground := Ground.phase }, { on := 9, ground := Ground.phase }, { on := 10, ground := Ground.phase }], guard := none }) (v := ?_) rfl (by kernel_rfl) (by kernel_rfl) (by kernel_rfl) (fun _ _ _ h => h) (Or.inl ⟨by rfl, ?_⟩) (by assumption) ?_
      rotate_left
      · first | (intro w hSw; (try dsimp only at hSw); go_simp; done) | (intro w hSw; (try dsimp only at hSw); go_simp; with_reducible rfl)
      simp only [Act.put, List.setIfInBounds_toArray, List.set_cons_zero, List.set_cons_succ]
      refine wpAnyH_done (by kernel_rfl) ?_ _
      have HBF := Lib.hid hbw3
      clear hHeld hbw3
      go_wp2_with fail
      go_ret
      exact ⟨c1, rfl, HN1.out, HBF.out⟩
  · have q1 : decide ((r.h : Int) + 1 < (l.h : Int)) = false := by simp; omega
    by_cases hb : l.h + 1 < r.h
    · obtain ⟨m, a, rfl⟩ : ∃ m a, r = .node m a := T.node_of_h (by omega)
      have HG : Hid (bal l (.node m a) = leanR l m a) := Lib.hid (by unfold bal; rw [if_neg ha, if_pos hb])
      rw [HG.out]
      have q2 : decide ((l.h : Int) + 1 < ((T.node m a).h : Int)) = true := by simp; omega
      change l.n + (m.n + a.n) ≤ _ at hn
      obtain ⟨A, n, c, A', n', c', y, x, hh, hy, hx⟩ := hr
      obtain ⟨c4, c5⟩ := hh.sides (Below.refl _ _)
      have ca := hx.high (Below.refl _ _)
      have cm := hy.high (Below.refl _ _)
      have HH := Lib.hid hh
      have HX := Lib.hid hx
      have HY := Lib.hid hy
      clear ha hb HG hh hx hy hl h1 h2
      generalize (T.node m a).h = rh at *
      generalize l.h = lh at *
      by_cases hlt : a.h < m.h
      · obtain ⟨p, q, rfl⟩ : ∃ p q, m = .node p q := T.node_of_h (by omega)
        have hq : decide (a.h < (T.node p q).h) = true := by simpa using hlt
        have HG : Hid (leanR l (.node p q) a = .node (.node l p) (.node q a)) := Lib.hid (by unfold leanR; rw [if_pos hlt])
        rw [HG.out]
        obtain ⟨Am, nm, cm', Am', nm', cm'', xp, yp, hm, hp, hq2⟩ := HY.out
        have HM := Lib.hid hm
        have HP := Lib.hid hp
        have HQ := Lib.hid hq2
        change l.n + ((p.n + q.n) + a.n) ≤ _ at hn
        clear hm hp hq2 HG hlt
        have HSD : Hid (∀ u, Below w.heap.size w u → u.cell? ⟨br, 5, none⟩ = some (.pointer (some ⟨x, 0, none⟩)) ∧ u.cell? ⟨y, 4, none⟩ = some (.pointer (some ⟨xp, 0, none⟩)) ∧ u.cell? ⟨y, 5, none⟩ = some (.pointer (some ⟨yp, 0, none⟩))) := Lib.hid (fun u hu => ⟨(HH.out.sides hu).2, HM.out.sides hu⟩)
        generalize (T.node p q).h = mh at *
        generalize a.h = ah at *
        go_enter Tryd.func43, Tryd.ntmps43
        go_wp2_with fail
        go_quiet (fail)
        rename Nat => nq1
        go_wp2_with fail
        go_quiet (fail)
        rename Nat => nq2
        go_wp2_with fail
        go_quiet (fail)
        rename Nat => nq3
        have HBQ : Hid (Below w.heap.size w (((w.drewN nq1).drewN nq2).drewN nq3)) := Lib.hid (below_drewN (below_drewN (below_drewN (Below.refl _ _) _) _) _)
        have c4' : (((w.drewN nq1).drewN nq2).drewN nq3).cell? ⟨br, 4, none⟩ = some (.pointer (some ⟨y, 0, none⟩)) := c4
        clear c4 c5 ca cm cl cr q1 q2 hq i1 i2
        generalize ((w.drewN nq1).drewN nq2).drewN nq3 = wq at *
        go_upto_region 9 with (fail)
        have hbd : Below w.heap.size w wq.drew := HBQ.out.drew
        have hS0 := HSD.out wq.drew hbd
        refine wp_region_held_drew (S := fun u => u.cell? ⟨br, 5, none⟩ = some (.pointer (some ⟨x, 0, none⟩)) ∧ u.cell? ⟨y, 4, none⟩ = some (.pointer (some ⟨xp, 0, none⟩)) ∧ u.cell? ⟨y, 5, none⟩ = some (.pointer (some ⟨yp, 0, none⟩))) (by kernel_rfl) hS0 (fun hHeld => ?_)
        refine wpAnyH_take (i := 0) (oi := { dst := some 92, op := Op.move (Operand.tmp 0), type := 26, pos := "ref.go:74", after := #[], guard := none }) (v := ?_) rfl (by kernel_rfl) (by kernel_rfl) (by kernel_rfl) (fun _ _ _ h => h) (Or.inl ⟨by rfl, ?_⟩) (by assumption) ?_
        rotate_left
        · first | (intro w hSw; (try dsimp only at hSw); go_simp; done) | (intro w hSw; (try dsimp only at hSw); go_simp; with_reducible rfl)
        simp only [Act.put, List.setIfInBounds_toArray, List.set_cons_zero, List.set_cons_succ]
        refine wpAnyH_take (i := 1) (oi := { dst := some 93, op := Op.move (Operand.tmp 6), type := 26, pos := "ref.go:74", after := #[], guard := none }) (v := ?_) rfl (by kernel_rfl) (by kernel_rfl) (by kernel_rfl) (fun _ _ _ h => h) (Or.inl ⟨by rfl, ?_⟩) (by assumption) ?_
        rotate_left
        · first | (intro w hSw; (try dsimp only at hSw); go_simp; done) | (intro w hSw; (try dsimp only at hSw); go_simp; with_reducible rfl)
        simp only [Act.put, List.setIfInBounds_toArray, List.set_cons_zero, List.set_cons_succ]
        refine wpAnyH_take (i := 2) (oi := { dst := some 94, op := Op.nilCheck (Operand.tmp 93), type := 0, pos := "ref.go:74", after := #[{ on := 1, ground := Ground.data }], guard := none }) (v := ?_) rfl (by kernel_rfl) (by kernel_rfl) (by kernel_rfl) (fun _ _ _ h => h) (Or.inl ⟨by rfl, ?_⟩) (by assumption) ?_
        rotate_left
        · first | (intro w hSw; (try dsimp only at hSw); go_simp; done) | (intro w hSw; (try dsimp only at hSw); go_simp; with_reducible rfl)
        simp only [Act.put, List.setIfInBounds_toArray, List.set_cons_zero, List.set_cons_succ]
        refine wpAnyH_take (i := 3) (oi := { dst := some 95, op := Op.fieldAddr 62 (Operand.tmp 94) 4, type := 0, pos := "ref.go:74", after := #[{ on := 2, ground := Ground.data }], guard := none }) (v := ?_) rfl (by kernel_rfl) (by kernel_rfl) (by kernel_rfl) (fun _ _ _ h => h) (Or.inl ⟨by rfl, ?_⟩) (by assumption) ?_
        rotate_left
        · first | (intro w hSw; (try dsimp only at hSw); go_simp; done) | (intro w hSw; (try dsimp only at hSw); go_simp; with_reducible rfl)
        simp only [Act.put, List.setIfInBounds_toArray, List.set_cons_zero, List.set_cons_succ]
        refine wpAnyH_take (i := 4) (oi := { dst := some 96, op := Op.load 26 (Operand.tmp 95), type := 26, pos := "ref.go:74", after := #[{ on := 3, ground := Ground.data }], guard := none }) (v := ?_) rfl (by kernel_rfl) (by kernel_rfl) (by kernel_rfl) (fun _ _ _ h => h) (Or.inl ⟨by rfl, ?_⟩) (by assumption) ?_
        rotate_left
        · first | (intro w hSw; (try dsimp only at hSw); go_simp; done) | (intro w hSw; (try dsimp only at hSw); go_simp; with_reducible rfl)
        simp only [Act.put, List.setIfInBounds_toArray, List.set_cons_zero, List.set_cons_succ]
        refine wpAnyH_take (i := 6) (oi := { dst := some 98, op := Op.move (Operand.tmp 6), type := 26, pos := "ref.go:74", after := #[], guard := none }) (v := ?_) rfl (by kernel_rfl) (by kernel_rfl) (by kernel_rfl) (fun _ _ _ h => h) (Or.inl ⟨by rfl, ?_⟩) (by assumption) ?_
        rotate_left
        · first | (intro w hSw; (try dsimp only at hSw); go_simp; done) | (intro w hSw; (try dsimp only at hSw); go_simp; with_reducible rfl)
        simp only [Act.put, List.setIfInBounds_toArray, List.set_cons_zero, List.set_cons_succ]
        refine wpAnyH_take (i := 7) (oi := { dst := some 99, op := Op.nilCheck (Operand.tmp 98), type := 0, pos := "ref.go:74", after := #[{ on := 6, ground := Ground.data }], guard := none }) (v := ?_) rfl (by kernel_rfl) (by kernel_rfl) (by kernel_rfl) (fun _ _ _ h => h) (Or.inl ⟨by rfl, ?_⟩) (by assumption) ?_
        rotate_left
        · first | (intro w hSw; (try dsimp only at hSw); go_simp; done) | (intro w hSw; (try dsimp only at hSw); go_simp; with_reducible rfl)
        simp only [Act.put, List.setIfInBounds_toArray, List.set_cons_zero, List.set_cons_succ]
        refine wpAnyH_take (i := 8) (oi := { dst := some 100, op := Op.fieldAddr 62 (Operand.tmp 99) 5, type := 0, pos := "ref.go:74", after := #[{ on := 7, ground := Ground.data }], guard := none }) (v := ?_) rfl (by kernel_rfl) (by kernel_rfl) (by kernel_rfl) (fun _ _ _ h => h) (Or.inl ⟨by rfl, ?_⟩) (by assumption) ?_
        rotate_left
        · first | (intro w hSw; (try dsimp only at hSw); go_simp; done) | (intro w hSw; (try dsimp only at hSw); go_simp; with_reducible rfl)
        simp only [Act.put, List.setIfInBounds_toArray, List.set_cons_zero, List.set_cons_succ]
        refine wpAnyH_take (i := 9) (oi := { dst := some 101, op := Op.load 26 (Operand.tmp 100), type := 26, pos := "ref.go:74", after := #[{ on := 8, ground := Ground.data }], guard := none }) (v := ?_) rfl (by kernel_rfl) (by kernel_rfl) (by kernel_rfl) (fun _ _ _ h => h) (Or.inl ⟨by rfl, ?_⟩) (by assumption) ?_
        rotate_left
        · first | (intro w hSw; (try dsimp only at hSw); go_simp; done) | (intro w hSw; (try dsimp only at hSw); go_simp; with_reducible rfl)
        simp only [Act.put, List.setIfInBounds_toArray, List.set_cons_zero, List.set_cons_succ]
        refine wpAnyH_take (i := 10) (oi := { dst := some 102, op := Op.move (Operand.tmp 1), type := 26, pos := "ref.go:74", after := #[], guard := none }) (v := ?_) rfl (by kernel_rfl) (by kernel_rfl) (by kernel_rfl) (fun _ _ _ h => h) (Or.inl ⟨by rfl, ?_⟩) (by assumption) ?_
        rotate_left
        · first | (intro w hSw; (try dsimp only at hSw); go_simp; done) | (intro w hSw; (try dsimp only at hSw); go_simp; with_reducible rfl)
        simp only [Act.put, List.setIfInBounds_toArray, List.set_cons_zero, List.set_cons_succ]
        refine wpAnyH_take (i := 11) (oi := { dst := some 103, op := Op.nilCheck (Operand.tmp 102), type := 0, pos := "ref.go:74", after := #[{ on := 10, ground := Ground.data }], guard := none }) (v := ?_) rfl (by kernel_rfl) (by kernel_rfl) (by kernel_rfl) (fun _ _ _ h => h) (Or.inl ⟨by rfl, ?_⟩) (by assumption) ?_
        rotate_left
        · first | (intro w hSw; (try dsimp only at hSw); go_simp; done) | (intro w hSw; (try dsimp only at hSw); go_simp; with_reducible rfl)
        simp only [Act.put, List.setIfInBounds_toArray, List.set_cons_zero, List.set_cons_succ]
        refine wpAnyH_take (i := 12) (oi := { dst := some 104, op := Op.fieldAddr 62 (Operand.tmp 103) 5, type := 0, pos := "ref.go:74", after := #[{ on := 11, ground := Ground.data }], guard := none }) (v := ?_) rfl (by kernel_rfl) (by kernel_rfl) (by kernel_rfl) (fun _ _ _ h => h) (Or.inl ⟨by rfl, ?_⟩) (by assumption) ?_
        rotate_left
        · first | (intro w hSw; (try dsimp only at hSw); go_simp; done) | (intro w hSw; (try dsimp only at hSw); go_simp; with_reducible rfl)
        simp only [Act.put, List.setIfInBounds_toArray, List.set_cons_zero, List.set_cons_succ]
        refine wpAnyH_take (i := 13) (oi := { dst := some 105, op := Op.load 26 (Operand.tmp 104), type := 26, pos := "ref.go:74", after := #[{ on := 12, ground := Ground.data }], guard := none }) (v := ?_) rfl (by kernel_rfl) (by kernel_rfl) (by kernel_rfl) (fun _ _ _ h => h) (Or.inl ⟨by rfl, ?_⟩) (by assumption) ?_
        rotate_left
        · first | (intro w hSw; (try dsimp only at hSw); go_simp; done) | (intro w hSw; (try dsimp only at hSw); go_simp; with_reducible rfl)
        simp only [Act.put, List.setIfInBounds_toArray, List.set_cons_zero, List.set_cons_succ]
        clear hHeld hS0 HBQ
        generalize wq.drew = w1 at *
        have HC := Lib.hid (rabove_any (l) (p) bl xp w1 (HL.out.on hbd) (HP.out.on hbd) (by (try simp only [T.n]); omega))
        rw [ptr_some, ptr_some] at HC
        refine wpAnyH_ready (rs := [5]) (by kernel_rfl) (by simp) ?_
        refine AllReadyH.cons rfl (fun K hK => ?_) AllReadyH.nil
        go_simp
        refine HC.out.mono ?_
        rintro e w2 ⟨c0, rfl, hN0, hbl⟩
        rw [ptr_some]
        have HN0 := Lib.hid hN0
        have hbw2 := hbd.trans (hbl.mono hbd.size)
        have hHeld := HSD.out w2 hbw2
        refine hK.out _ _ hHeld (fun _ => ?_)
        clear hK K HC hN0 hbl hbd
        clear hHeld
        have HC := Lib.hid (rabove_any (q) (a) yp x w2 (HQ.out.on hbw2) (HX.out.on hbw2) (by (try simp only [T.n]); omega))
        rw [ptr_some, ptr_some] at HC
        refine wpAnyH_ready (rs := [14]) (by kernel_rfl) (by simp) ?_
        refine AllReadyH.cons rfl (fun K hK => ?_) AllReadyH.nil
        go_simp
        refine HC.out.mono ?_
        rintro e w3 ⟨c1, rfl, hN1, hbl⟩
        rw [ptr_some]
        have HN1 := Lib.hid hN1
        replace HN0 := Lib.hid (HN0.out.on hbl)
        have hbw3 := hbw2.trans (hbl.mono hbw2.size)
        have hHeld := HSD.out w3 hbw3
        refine hK.out _ _ hHeld (fun _ => ?_)
        clear hK K HC hN1 hbl hbw2
        clear hHeld
        have HC := Lib.hid (rabove_any (.node l p) (.node q a) c0 c1 w3 HN0.out HN1.out (by (try simp only [T.n]); omega))
        rw [ptr_some, ptr_some] at HC
        refine wpAnyH_ready (rs := [15]) (by kernel_rfl) (by simp) ?_
        refine AllReadyH.cons rfl (fun K hK => ?_) AllReadyH.nil
        go_simp
        refine HC.out.mono ?_
        rintro e w4 ⟨c2, rfl, hN2, hbl⟩
        rw [ptr_some]
        have HN2 := Lib.hid hN2
        replace HN0 := Lib.hid (HN0.out.on hbl)
        replace HN1 := Lib.hid (HN1.out.on hbl)
        have hbw4 := hbw3.trans (hbl.mono hbw3.size)
        have hHeld := HSD.out w4 hbw4
        refine hK.out _ _ hHeld (fun _ => ?_)
        clear hK K HC hN2 hbl hbw3
        refine wpAnyH_take (i := 16) (oi := { dst := some 4, op := Op.assign (Operand.tmp 107), type := 26, pos := "ref.go:74", after := #[{ on := 15, ground := Ground.data }, { on := 15, ground := Ground.chain }, { on := 0, ground := Ground.phase }, { on := 1, ground := Ground.phase }, { on := 2, ground := Ground.phase }, { on := 3, ground := Ground.phase }, { on := 4, ground := Ground.phase }, { on := 5, ground := Ground.phase }, { on := 6, ground := Ground.phase }, { on := 7, ground := Ground.phase }, { on := 8, ground := Ground.phase }, { on := 9, ground := Ground.phase }, { on := 10, ground := Ground.phase }, { on := 11, ground := Ground.phase }, { on := 12, ground := Ground.phase }, { on := 13, ground := Ground.phase }, { on := 14, ground := Ground.phase }, { on := 15, ground := Ground.phase }], guard := none }) (v := ?_) rfl (by kernel_rfl) (by kernel_rfl) (by kernel_rfl) (fun _ _ _ h => h) (Or.inl ⟨by rfl, ?_⟩) (by assumption) ?_
        rotate_left
        · first | (intro w hSw; (try dsimp only at hSw); go_simp; done) | (intro w hSw; (try dsimp only at hSw); go_simp; with_reducible rfl)
        simp only [Act.put, List.setIfInBounds_toArray, List.set_cons_zero, List.set_cons_succ]
        refine wpAnyH_done (by kernel_rfl) ?_ _
        have HBF := Lib.hid hbw4
        clear hHeld hbw4
        go_wp2_with fail
        go_ret
        exact ⟨c2, rfl, HN2.out, HBF.out⟩
      · have hq : decide (a.h < m.h) = false := by simpa using hlt
        have HG : Hid (leanR l m a = .node (.node l m) a) := Lib.hid (by unfold leanR; rw [if_neg hlt])
        rw [HG.out]
        clear HG hlt
        have HSD : Hid (∀ u, Below w.heap.size w u → u.cell? ⟨br, 4, none⟩ = some (.pointer (some ⟨y, 0, none⟩)) ∧ u.cell? ⟨br, 5, none⟩ = some (.pointer (some ⟨x, 0, none⟩))) := Lib.hid (fun u hu => HH.out.sides hu)
        generalize m.h = mh at *
        generalize a.h = ah at *
        go_enter Tryd.func43, Tryd.ntmps43
        go_wp2_with fail
        go_quiet (fail)
        rename Nat => nq1
        go_wp2_with fail
        go_quiet (fail)
        rename Nat => nq2
        go_wp2_with fail
        go_quiet (fail)
        rename Nat => nq3
        have HBQ : Hid (Below w.heap.size w (((w.drewN nq1).drewN nq2).drewN nq3)) := Lib.hid (below_drewN (below_drewN (below_drewN (Below.refl _ _) _) _) _)
        clear c4 c5 ca cm cl cr q1 q2 hq i1 i2
        generalize ((w.drewN nq1).drewN nq2).drewN nq3 = wq at *
        go_upto_region 10 with (fail)
        have hbd : Below w.heap.size w wq.drew := HBQ.out.drew
        have hS0 := HSD.out wq.drew hbd
        refine wp_region_held_drew (S := fun u => u.cell? ⟨br, 4, none⟩ = some (.pointer (some ⟨y, 0, none⟩)) ∧ u.cell? ⟨br, 5, none⟩ = some (.pointer (some ⟨x, 0, none⟩))) (by kernel_rfl) hS0 (fun hHeld => ?_)
        refine wpAnyH_take (i := 0) (oi := { dst := some 108, op := Op.move (Operand.tmp 0), type := 26, pos := "ref.go:76", after := #[], guard := none }) (v := ?_) rfl (by kernel_rfl) (by kernel_rfl) (by kernel_rfl) (fun _ _ _ h => h) (Or.inl ⟨by rfl, ?_⟩) (by assumption) ?_
        rotate_left
        · first | (intro w hSw; (try dsimp only at hSw); go_simp; done) | (intro w hSw; (try dsimp only at hSw); go_simp; with_reducible rfl)
        simp only [Act.put, List.setIfInBounds_toArray, List.set_cons_zero, List.set_cons_succ]
        refine wpAnyH_take (i := 1) (oi := { dst := some 109, op := Op.move (Operand.tmp 1), type := 26, pos := "ref.go:76", after := #[], guard := none }) (v := ?_) rfl (by kernel_rfl) (by kernel_rfl) (by kernel_rfl) (fun _ _ _ h => h) (Or.inl ⟨by rfl, ?_⟩) (by assumption) ?_
        rotate_left
        · first | (intro w hSw; (try dsimp only at hSw); go_simp; done) | (intro w hSw; (try dsimp only at hSw); go_simp; with_reducible rfl)
        simp only [Act.put, List.setIfInBounds_toArray, List.set_cons_zero, List.set_cons_succ]
        refine wpAnyH_take (i := 2) (oi := { dst := some 110, op := Op.nilCheck (Operand.tmp 109), type := 0, pos := "ref.go:76", after := #[{ on := 1, ground := Ground.data }], guard := none }) (v := ?_) rfl (by kernel_rfl) (by kernel_rfl) (by kernel_rfl) (fun _ _ _ h => h) (Or.inl ⟨by rfl, ?_⟩) (by assumption) ?_
        rotate_left
        · first | (intro w hSw; (try dsimp only at hSw); go_simp; done) | (intro w hSw; (try dsimp only at hSw); go_simp; with_reducible rfl)
        simp only [Act.put, List.setIfInBounds_toArray, List.set_cons_zero, List.set_cons_succ]
        refine wpAnyH_take (i := 3) (oi := { dst := some 111, op := Op.fieldAddr 62 (Operand.tmp 110) 4, type := 0, pos := "ref.go:76", after := #[{ on := 2, ground := Ground.data }], guard := none }) (v := ?_) rfl (by kernel_rfl) (by kernel_rfl) (by kernel_rfl) (fun _ _ _ h => h) (Or.inl ⟨by rfl, ?_⟩) (by assumption) ?_
        rotate_left
        · first | (intro w hSw; (try dsimp only at hSw); go_simp; done) | (intro w hSw; (try dsimp only at hSw); go_simp; with_reducible rfl)
        simp only [Act.put, List.setIfInBounds_toArray, List.set_cons_zero, List.set_cons_succ]
        refine wpAnyH_take (i := 4) (oi := { dst := some 112, op := Op.load 26 (Operand.tmp 111), type := 26, pos := "ref.go:76", after := #[{ on := 3, ground := Ground.data }], guard := none }) (v := ?_) rfl (by kernel_rfl) (by kernel_rfl) (by kernel_rfl) (fun _ _ _ h => h) (Or.inl ⟨by rfl, ?_⟩) (by assumption) ?_
        rotate_left
        · first | (intro w hSw; (try dsimp only at hSw); go_simp; done) | (intro w hSw; (try dsimp only at hSw); go_simp; with_reducible rfl)
        simp only [Act.put, List.setIfInBounds_toArray, List.set_cons_zero, List.set_cons_succ]
        refine wpAnyH_take (i := 6) (oi := { dst := some 114, op := Op.move (Operand.tmp 1), type := 26, pos := "ref.go:76", after := #[], guard := none }) (v := ?_) rfl (by kernel_rfl) (by kernel_rfl) (by kernel_rfl) (fun _ _ _ h => h) (Or.inl ⟨by rfl, ?_⟩) (by assumption) ?_
        rotate_left
        · first | (intro w hSw; (try dsimp only at hSw); go_simp; done) | (intro w hSw; (try dsimp only at hSw); go_simp; with_reducible rfl)
        simp only [Act.put, List.setIfInBounds_toArray, List.set_cons_zero, List.set_cons_succ]
        refine wpAnyH_take (i := 7) (oi := { dst := some 115, op := Op.nilCheck (Operand.tmp 114), type := 0, pos := "ref.go:76", after := #[{ on := 6, ground := Ground.data }], guard := none }) (v := ?_) rfl (by kernel_rfl) (by kernel_rfl) (by kernel_rfl) (fun _ _ _ h => h) (Or.inl ⟨by rfl, ?_⟩) (by assumption) ?_
        rotate_left
        · first | (intro w hSw; (try dsimp only at hSw); go_simp; done) | (intro w hSw; (try dsimp only at hSw); go_simp; with_reducible rfl)
        simp only [Act.put, List.setIfInBounds_toArray, List.set_cons_zero, List.set_cons_succ]
        refine wpAnyH_take (i := 8) (oi := { dst := some 116, op := Op.fieldAddr 62 (Operand.tmp 115) 5, type := 0, pos := "ref.go:76", after := #[{ on := 7, ground := Ground.data }], guard := none }) (v := ?_) rfl (by kernel_rfl) (by kernel_rfl) (by kernel_rfl) (fun _ _ _ h => h) (Or.inl ⟨by rfl, ?_⟩) (by assumption) ?_
        rotate_left
        · first | (intro w hSw; (try dsimp only at hSw); go_simp; done) | (intro w hSw; (try dsimp only at hSw); go_simp; with_reducible rfl)
        simp only [Act.put, List.setIfInBounds_toArray, List.set_cons_zero, List.set_cons_succ]
        refine wpAnyH_take (i := 9) (oi := { dst := some 117, op := Op.load 26 (Operand.tmp 116), type := 26, pos := "ref.go:76", after := #[{ on := 8, ground := Ground.data }], guard := none }) (v := ?_) rfl (by kernel_rfl) (by kernel_rfl) (by kernel_rfl) (fun _ _ _ h => h) (Or.inl ⟨by rfl, ?_⟩) (by assumption) ?_
        rotate_left
        · first | (intro w hSw; (try dsimp only at hSw); go_simp; done) | (intro w hSw; (try dsimp only at hSw); go_simp; with_reducible rfl)
        simp only [Act.put, List.setIfInBounds_toArray, List.set_cons_zero, List.set_cons_succ]
        clear hHeld hS0 HBQ
        generalize wq.drew = w1 at *
        have HC := Lib.hid (rabove_any (l) (m) bl y w1 (HL.out.on hbd) (HY.out.on hbd) (by (try simp only [T.n]); omega))
        rw [ptr_some, ptr_some] at HC
        refine wpAnyH_ready (rs := [5]) (by kernel_rfl) (by simp) ?_
        refine AllReadyH.cons rfl (fun K hK => ?_) AllReadyH.nil
        go_simp
        refine HC.out.mono ?_
        rintro e w2 ⟨c0, rfl, hN0, hbl⟩
        rw [ptr_some]
        have HN0 := Lib.hid hN0
        have hbw2 := hbd.trans (hbl.mono hbd.size)
        have hHeld := HSD.out w2 hbw2
        refine hK.out _ _ hHeld (fun _ => ?_)
        clear hK K HC hN0 hbl hbd
        clear hHeld
        have HC := Lib.hid (rabove_any (.node l m) (a) c0 x w2 HN0.out (HX.out.on hbw2) (by (try simp only [T.n]); omega))
        rw [ptr_some, ptr_some] at HC
        refine wpAnyH_ready (rs := [10]) (by kernel_rfl) (by simp) ?_
        refine AllReadyH.cons rfl (fun K hK => ?_) AllReadyH.nil
        go_simp
        refine HC.out.mono ?_
        rintro e w3 ⟨c1, rfl, hN1, hbl⟩
        rw [ptr_some]
        have HN1 := Lib.hid hN1
        replace HN0 := Lib.hid (HN0.out.on hbl)
        have hbw3 := hbw2.trans (hbl.mono hbw2.size)
        have hHeld := HSD.out w3 hbw3
        refine hK.out _ _ hHeld (fun _ => ?_)
        clear hK K HC hN1 hbl hbw2
        refine wpAnyH_take (i := 11) (oi := { dst := some 4, op := Op.assign (Operand.tmp 118), type := 26, pos := "ref.go:76", after := #[{ on := 10, ground := Ground.data }, { on := 10, ground := Ground.chain }, { on := 0, ground := Ground.phase }, { on := 1, ground := Ground.phase }, { on := 2, ground := Ground.phase }, { on := 3, ground := Ground.phase }, { on := 4, ground := Ground.phase }, { on := 5, ground := Ground.phase }, { on := 6, ground := Ground.phase }, { on := 7, ground := Ground.phase }, { on := 8, ground := Ground.phase }, { on := 9, ground := Ground.phase }, { on := 10, ground := Ground.phase }], guard := none }) (v := ?_) rfl (by kernel_rfl) (by kernel_rfl) (by kernel_rfl) (fun _ _ _ h => h) (Or.inl ⟨by rfl, ?_⟩) (by assumption) ?_
        rotate_left
        · first | (intro w hSw; (try dsimp only at hSw); go_simp; done) | (intro w hSw; (try dsimp only at hSw); go_simp; with_reducible rfl)
        simp only [Act.put, List.setIfInBounds_toArray, List.set_cons_zero, List.set_cons_succ]
        refine wpAnyH_done (by kernel_rfl) ?_ _
        have HBF := Lib.hid hbw3
        clear hHeld hbw3
        go_wp2_with fail
        go_ret
        exact ⟨c1, rfl, HN1.out, HBF.out⟩
    · have q2 : decide ((l.h : Int) + 1 < (r.h : Int)) = false := by simp; omega
      have HG : Hid (bal l r = .node l r) := Lib.hid (by unfold bal; rw [if_neg ha, if_neg hb])
      rw [HG.out]
      clear ha hb HG hl hr h1 h2
      generalize l.h = lh at *
      generalize r.h = rh at *
      go_enter Tryd.func43, Tryd.ntmps43
      go_wp2_with fail
      go_quiet (fail)
      rename Nat => nq1
      go_wp2_with fail
      go_quiet (fail)
      rename Nat => nq2
      have hbq : Below w.heap.size w ((w.drewN nq1).drewN nq2) := below_drewN (below_drewN (Below.refl _ _) _) _
      go_upto_region 11 with (fail)
      generalize (w.drewN nq1).drewN nq2 = w1 at *
      clear cl cr i1 i2 q1 q2
      have HC1 := Lib.hid (rabove_any l r bl br w1 (HL.out.on hbq) (HR.out.on hbq) hn)
      rw [ptr_some, ptr_some] at HC1
      have HBQ := Lib.hid hbq
      clear hbq
      go_wp2_with fail
      refine HC1.out.mono ?_
      rintro e w2 ⟨b1, rfl, hN1, hb2⟩
      rw [ptr_some]
      have HN1 := Lib.hid hN1
      have HB2 := Lib.hid (HBQ.out.trans (hb2.mono HBQ.out.size))
      clear hN1 hb2 HC1 HBQ
      go_wp2_with fail
      go_ret
      exact ⟨b1, rfl, HN1.out, HB2.out⟩
end Go.Proofs.YtbhmldoehgkhfaaDoor
