/-
  What leaningLeft and leaningRight return: a node above what is beneath two, turned; conditions: both lie in memory, their leaves are no more than 4294967296, the table holds its words. They only make memory of their own.
-/
import Derived.Test.YtceillnmcccckaaDoorAbove
namespace Go.Proofs.YtceillnmcccckaaDoor
open Go.RowKit
open Tr
variable {G : Nat → Prop}

/-- Where the two beneath a node are, and how high it is. -/
theorem NHas.sides {w w' : World} {B b n c n' c' x y : Nat} {t : T} {A A' : Option Addr} (h : NHas G w B t b A n c A' n' c' (some x) (some y)) (hb : Below B w w') :
    w'.cell? ⟨b, 100, none⟩ = some (.pointer (some ⟨x, 0, none⟩)) ∧ w'.cell? ⟨b, 101, none⟩ = some (.pointer (some ⟨y, 0, none⟩)) := by
  obtain ⟨_, _, _, _, c100, c101⟩ := (h.below hb (Nat.le_refl _)).cells
  exact ⟨c100, c101⟩
theorem NIn.high {w w' : World} {B b : Nat} {t : T} (h : NIn G w B t b) (hb : Below B w w') : w'.cell? ⟨b, 2, none⟩ = some (.int .i64 t.h) := by
  obtain ⟨A, n, c, A', n', c', x, y, hh⟩ := (h.below hb (Nat.le_refl _)).has
  exact hh.cells.2.2.1
theorem NIn.on {w w' : World} {t : T} {b : Nat} (h : NIn G w w.heap.size t b) (hb : Below w.heap.size w w') : NIn G w' w'.heap.size t b := (h.below hb (Nat.le_refl _)).more hb.size

set_option maxRecDepth 100000 in
set_option maxHeartbeats 1000000 in
theorem leanL_any (a m r : T) (b br : Nat) (w : World) (hl : NIn G w w.heap.size (.node a m) b) (hr : NIn G w w.heap.size r br) (hn : a.n + m.n + r.n ≤ 4294967296) (ht : Sh.Tab w 1) (hw : Room G w) :
    Calls Tryd.prog 69 #[ptr (some b), ptr (some br)] w (NodePost G (leanL a m r) w) := by
  obtain ⟨A, n, c, A', n', c', x, y, hh, hx, hy⟩ := hl
  have hbr := hr.lt
  obtain ⟨c100, c101⟩ := hh.sides (Below.refl _ _)
  have ca := hx.high (Below.refl _ _)
  have cm := hy.high (Below.refl _ _)
  have HX := Lib.hid hx
  have HY := Lib.hid hy
  have HR := Lib.hid hr
  have HT := Lib.hid ht
  clear hh hx hy hr ht
  rw [ptr_some, ptr_some]
  by_cases hlt : a.h < m.h
  · obtain ⟨p, q, rfl⟩ : ∃ p q, m = .node p q := T.node_of_h (by omega)
    have hq : decide (a.h < (T.node p q).h) = true := by simpa using hlt
    have HG : Hid (leanL a (.node p q) r = .node (.node a p) (.node q r)) := Lib.hid (by unfold leanL; rw [if_pos hlt])
    rw [HG.out]
    obtain ⟨Am, nm, cm', Am', nm', cm'', xp, yp, hm, hp, hq2⟩ := HY.out
    have HM := Lib.hid hm
    have HP := Lib.hid hp
    have HQ := Lib.hid hq2
    have e0 : (T.node p q).n = p.n + q.n := rfl
    clear hm hp hq2 HG HY hlt
    generalize (T.node p q).h = mh at *
    generalize a.h = ah at *
    go_enter Tryd.func69, Tryd.ntmps69
    go_wp2_with fail
    go_quiet (fail)
    rename Nat => nq1
    go_wp2_with fail
    go_quiet (fail)
    rename Nat => nq2
    go_upto_region 3 with (fail)
    have hbq : Below w.heap.size w ((w.drewN nq1).drewN nq2).drew := (below_drewN (below_drewN (Below.refl _ _) _) _).drew
    generalize (w.drewN nq1).drewN nq2 = wq at *
    have hS0 : wq.drew.cell? ⟨y, 100, none⟩ = some (.pointer (some ⟨xp, 0, none⟩)) ∧ wq.drew.cell? ⟨y, 101, none⟩ = some (.pointer (some ⟨yp, 0, none⟩)) := HM.out.sides hbq
    refine wp_region_held_drew (S := fun w' => w'.cell? ⟨y, 100, none⟩ = some (.pointer (some ⟨xp, 0, none⟩)) ∧ w'.cell? ⟨y, 101, none⟩ = some (.pointer (some ⟨yp, 0, none⟩))) (by kernel_rfl) hS0 (fun hHeld => ?_)
    refine wpAnyH_take (i := 0) (oi := { dst := some 26, op := Op.move (Operand.tmp 5), type := 78, pos := "node.go:48", after := #[], guard := none }) (v := ?_) rfl (by kernel_rfl) (by kernel_rfl) (by kernel_rfl) (fun _ _ _ h => h) (Or.inl ⟨by rfl, ?_⟩) (by assumption) ?_
    rotate_left
    · first | (intro w hSw; (try dsimp only at hSw); go_simp; done) | (intro w hSw; (try dsimp only at hSw); go_simp; with_reducible rfl)
    simp only [Act.put, List.setIfInBounds_toArray, List.set_cons_zero, List.set_cons_succ]
    refine wpAnyH_take (i := 1) (oi := { dst := some 27, op := Op.move (Operand.tmp 6), type := 78, pos := "node.go:48", after := #[], guard := none }) (v := ?_) rfl (by kernel_rfl) (by kernel_rfl) (by kernel_rfl) (fun _ _ _ h => h) (Or.inl ⟨by rfl, ?_⟩) (by assumption) ?_
    rotate_left
    · first | (intro w hSw; (try dsimp only at hSw); go_simp; done) | (intro w hSw; (try dsimp only at hSw); go_simp; with_reducible rfl)
    simp only [Act.put, List.setIfInBounds_toArray, List.set_cons_zero, List.set_cons_succ]
    refine wpAnyH_take (i := 2) (oi := { dst := some 28, op := Op.nilCheck (Operand.tmp 27), type := 0, pos := "node.go:48", after := #[{ on := 1, ground := Ground.data }], guard := none }) (v := ?_) rfl (by kernel_rfl) (by kernel_rfl) (by kernel_rfl) (fun _ _ _ h => h) (Or.inl ⟨by rfl, ?_⟩) (by assumption) ?_
    rotate_left
    · first | (intro w hSw; (try dsimp only at hSw); go_simp; done) | (intro w hSw; (try dsimp only at hSw); go_simp; with_reducible rfl)
    simp only [Act.put, List.setIfInBounds_toArray, List.set_cons_zero, List.set_cons_succ]
    refine wpAnyH_take (i := 3) (oi := { dst := some 29, op := Op.fieldAddr 88 (Operand.tmp 28) 2, type := 0, pos := "node.go:48", after := #[{ on := 2, ground := Ground.data }], guard := none }) (v := ?_) rfl (by kernel_rfl) (by kernel_rfl) (by kernel_rfl) (fun _ _ _ h => h) (Or.inl ⟨by rfl, ?_⟩) (by assumption) ?_
    rotate_left
    · first | (intro w hSw; (try dsimp only at hSw); go_simp; done) | (intro w hSw; (try dsimp only at hSw); go_simp; with_reducible rfl)
    simp only [Act.put, List.setIfInBounds_toArray, List.set_cons_zero, List.set_cons_succ]
    refine wpAnyH_take (i := 4) (oi := { dst := some 30, op := Op.load 78 (Operand.tmp 29), type := 78, pos := "node.go:48", after := #[{ on := 3, ground := Ground.data }], guard := none }) (v := ?_) rfl (by kernel_rfl) (by kernel_rfl) (by kernel_rfl) (fun _ _ _ h => h) (Or.inl ⟨by rfl, ?_⟩) (by assumption) ?_
    rotate_left
    · first | (intro w hSw; (try dsimp only at hSw); go_simp; done) | (intro w hSw; (try dsimp only at hSw); go_simp; with_reducible rfl)
    simp only [Act.put, List.setIfInBounds_toArray, List.set_cons_zero, List.set_cons_succ]
    refine wpAnyH_take (i := 6) (oi := { dst := some 32, op := Op.move (Operand.tmp 6), type := 78, pos := "node.go:48", after := #[], guard := none }) (v := ?_) rfl (by kernel_rfl) (by kernel_rfl) (by kernel_rfl) (fun _ _ _ h => h) (Or.inl ⟨by rfl, ?_⟩) (by assumption) ?_
    rotate_left
    · first | (intro w hSw; (try dsimp only at hSw); go_simp; done) | (intro w hSw; (try dsimp only at hSw); go_simp; with_reducible rfl)
    simp only [Act.put, List.setIfInBounds_toArray, List.set_cons_zero, List.set_cons_succ]
    refine wpAnyH_take (i := 7) (oi := { dst := some 33, op := Op.nilCheck (Operand.tmp 32), type := 0, pos := "node.go:48", after := #[{ on := 6, ground := Ground.data }], guard := none }) (v := ?_) rfl (by kernel_rfl) (by kernel_rfl) (by kernel_rfl) (fun _ _ _ h => h) (Or.inl ⟨by rfl, ?_⟩) (by assumption) ?_
    rotate_left
    · first | (intro w hSw; (try dsimp only at hSw); go_simp; done) | (intro w hSw; (try dsimp only at hSw); go_simp; with_reducible rfl)
    simp only [Act.put, List.setIfInBounds_toArray, List.set_cons_zero, List.set_cons_succ]
    refine wpAnyH_take (i := 8) (oi := { dst := some 34, op := Op.fieldAddr 88 (Operand.tmp 33) 3, type := 0, pos := "node.go:48", after := #[{ on := 7, ground := Ground.data }], guard := none }) (v := ?_) rfl (by kernel_rfl) (by kernel_rfl) (by kernel_rfl) (fun _ _ _ h => h) (Or.inl ⟨by rfl, ?_⟩) (by assumption) ?_
    rotate_left
    · first | (intro w hSw; (try dsimp only at hSw); go_simp; done) | (intro w hSw; (try dsimp only at hSw); go_simp; with_reducible rfl)
    simp only [Act.put, List.setIfInBounds_toArray, List.set_cons_zero, List.set_cons_succ]
    refine wpAnyH_take (i := 9) (oi := { dst := some 35, op := Op.load 78 (Operand.tmp 34), type := 78, pos := "node.go:48", after := #[{ on := 8, ground := Ground.data }], guard := none }) (v := ?_) rfl (by kernel_rfl) (by kernel_rfl) (by kernel_rfl) (fun _ _ _ h => h) (Or.inl ⟨by rfl, ?_⟩) (by assumption) ?_
    rotate_left
    · first | (intro w hSw; (try dsimp only at hSw); go_simp; done) | (intro w hSw; (try dsimp only at hSw); go_simp; with_reducible rfl)
    simp only [Act.put, List.setIfInBounds_toArray, List.set_cons_zero, List.set_cons_succ]
    refine wpAnyH_take (i := 10) (oi := { dst := some 36, op := Op.move (Operand.tmp 1), type := 78, pos := "node.go:48", after := #[], guard := none }) (v := ?_) rfl (by kernel_rfl) (by kernel_rfl) (by kernel_rfl) (fun _ _ _ h => h) (Or.inl ⟨by rfl, ?_⟩) (by assumption) ?_
    rotate_left
    · first | (intro w hSw; (try dsimp only at hSw); go_simp; done) | (intro w hSw; (try dsimp only at hSw); go_simp; with_reducible rfl)
    simp only [Act.put, List.setIfInBounds_toArray, List.set_cons_zero, List.set_cons_succ]
    clear hS0 hHeld c100 c101 ca cm hq
    generalize wq.drew = w1 at *
    have hs1 := hbq.size
    have HC1 := Lib.hid (above_any a p x xp w1 (HX.out.on hbq) (HP.out.on hbq) (by omega) (Sh.tab_below HT.out hbq hw.1) (hw.on hbq))
    rw [ptr_some, ptr_some] at HC1
    refine wpAnyH_ready (rs := [5]) (by kernel_rfl) (by simp) ?_
    refine AllReadyH.cons rfl (fun K hK => ?_) AllReadyH.nil
    go_simp
    refine HC1.out.mono ?_
    rintro e w2 ⟨b1, rfl, hN1, hb2⟩
    rw [ptr_some]
    replace hb2 := hbq.trans (hb2.mono hbq.size)
    have hs2 := hb2.size
    have HN1 := Lib.hid hN1
    refine hK.out _ _ (HM.out.sides hb2) (fun _ => ?_)
    clear hK K hN1 HC1 hbq hs1
    have HC2 := Lib.hid (above_any q r yp br w2 (HQ.out.on hb2) (HR.out.on hb2) (by omega) (Sh.tab_below HT.out hb2 hw.1) (hw.on hb2))
    rw [ptr_some, ptr_some] at HC2
    refine wpAnyH_ready (rs := [11]) (by kernel_rfl) (by simp) ?_
    refine AllReadyH.cons rfl (fun K hK => ?_) AllReadyH.nil
    go_simp
    refine HC2.out.mono ?_
    rintro e w3 ⟨b2, rfl, hN2, hb3⟩
    rw [ptr_some]
    have HN13 := Lib.hid (HN1.out.on hb3)
    replace hb3 := hb2.trans (hb3.mono hb2.size)
    have hs3 := hb3.size
    have HN2 := Lib.hid hN2
    refine hK.out _ _ (HM.out.sides hb3) (fun _ => ?_)
    clear hK K hN2 HC2 hb2 hs2 HN1
    have HC3 := Lib.hid (above_any (.node a p) (.node q r) b1 b2 w3 HN13.out HN2.out (by show (a.n + p.n) + (q.n + r.n) ≤ _; omega) (Sh.tab_below HT.out hb3 hw.1) (hw.on hb3))
    rw [ptr_some, ptr_some] at HC3
    refine wpAnyH_ready (rs := [12]) (by kernel_rfl) (by simp) ?_
    refine AllReadyH.cons rfl (fun K hK => ?_) AllReadyH.nil
    go_simp
    refine HC3.out.mono ?_
    rintro e w4 ⟨b3, rfl, hN3, hb4⟩
    rw [ptr_some]
    replace hb4 := hb3.trans (hb4.mono hb3.size)
    have HN3 := Lib.hid hN3
    have HB4 := Lib.hid hb4
    have hHeld := HM.out.sides hb4
    refine hK.out _ _ hHeld (fun _ => ?_)
    clear hK K hN3 HC3 hb3 hs3 HN13 HN2 hb4
    refine wpAnyH_take (i := 13) (oi := { dst := some 4, op := Op.assign (Operand.tmp 38), type := 78, pos := "node.go:48", after := #[{ on := 12, ground := Ground.data }, { on := 12, ground := Ground.chain }, { on := 0, ground := Ground.phase }, { on := 1, ground := Ground.phase }, { on := 2, ground := Ground.phase }, { on := 3, ground := Ground.phase }, { on := 4, ground := Ground.phase }, { on := 5, ground := Ground.phase }, { on := 6, ground := Ground.phase }, { on := 7, ground := Ground.phase }, { on := 8, ground := Ground.phase }, { on := 9, ground := Ground.phase }, { on := 10, ground := Ground.phase }, { on := 11, ground := Ground.phase }, { on := 12, ground := Ground.phase }], guard := none }) (v := ?_) rfl (by kernel_rfl) (by kernel_rfl) (by kernel_rfl) (fun _ _ _ h => h) (Or.inl ⟨by rfl, ?_⟩) (by assumption) ?_
    rotate_left
    · first | (intro w hSw; (try dsimp only at hSw); go_simp; done) | (intro w hSw; (try dsimp only at hSw); go_simp; with_reducible rfl)
    simp only [Act.put, List.setIfInBounds_toArray, List.set_cons_zero, List.set_cons_succ]
    refine wpAnyH_done (by kernel_rfl) ?_ _
    clear hHeld
    go_wp2_with fail
    go_ret
    exact ⟨b3, rfl, HN3.out, HB4.out⟩
  · have hq : decide (a.h < m.h) = false := by simpa using hlt
    have HG : Hid (leanL a m r = .node a (.node m r)) := Lib.hid (by unfold leanL; rw [if_neg hlt])
    rw [HG.out]
    clear HG hlt
    generalize m.h = mh at *
    generalize a.h = ah at *
    go_enter Tryd.func69, Tryd.ntmps69
    go_wp2_with fail
    go_quiet (fail)
    rename Nat => nq1
    go_wp2_with fail
    go_quiet (fail)
    rename Nat => nq2
    have hbq : Below w.heap.size w ((w.drewN nq1).drewN nq2) := below_drewN (below_drewN (Below.refl _ _) _) _
    go_upto_region 4 with (fail)
    generalize (w.drewN nq1).drewN nq2 = w1 at *
    clear c100 c101 ca cm hq
    have hs1 := hbq.size
    have HC1 := Lib.hid (above_any m r y br w1 (HY.out.on hbq) (HR.out.on hbq) (by omega) (Sh.tab_below HT.out hbq hw.1) (hw.on hbq))
    rw [ptr_some, ptr_some] at HC1
    go_wp2_with fail
    refine HC1.out.mono ?_
    rintro e w2 ⟨b1, rfl, hN1, hb2⟩
    rw [ptr_some]
    replace hb2 := hbq.trans (hb2.mono hbq.size)
    have hs2 := hb2.size
    have HC2 := Lib.hid (above_any a (.node m r) x b1 w2 (HX.out.on hb2) hN1 (by show a.n + (m.n + r.n) ≤ _; omega) (Sh.tab_below HT.out hb2 hw.1) (hw.on hb2))
    rw [ptr_some, ptr_some] at HC2
    have HB2 := Lib.hid hb2
    clear hN1 HC1 hbq hs1 hb2 hs2
    go_wp2_with fail
    refine HC2.out.mono ?_
    rintro e w3 ⟨b2, rfl, hN2, hb3⟩
    rw [ptr_some]
    have HN2 := Lib.hid hN2
    have HB3 := Lib.hid (HB2.out.trans (hb3.mono HB2.out.size))
    clear hN2 hb3 HC2 HB2
    go_wp2_with fail
    go_ret
    exact ⟨b2, rfl, HN2.out, HB3.out⟩
set_option maxRecDepth 100000 in
set_option maxHeartbeats 1000000 in
theorem leanR_any (r m a : T) (br b : Nat) (w : World) (hl : NIn G w w.heap.size r br) (hr : NIn G w w.heap.size (.node m a) b) (hn : r.n + m.n + a.n ≤ 4294967296) (ht : Sh.Tab w 1) (hw : Room G w) :
    Calls Tryd.prog 70 #[ptr (some br), ptr (some b)] w (NodePost G (leanR r m a) w) := by
  obtain ⟨A, n, c, A', n', c', y, x, hh, hy, hx⟩ := hr
  have hbr := hl.lt
  obtain ⟨c100, c101⟩ := hh.sides (Below.refl _ _)
  have ca := hx.high (Below.refl _ _)
  have cm := hy.high (Below.refl _ _)
  have HX := Lib.hid hx
  have HY := Lib.hid hy
  have HR := Lib.hid hl
  have HT := Lib.hid ht
  clear hh hx hy hl ht
  rw [ptr_some, ptr_some]
  by_cases hlt : a.h < m.h
  · obtain ⟨p, q, rfl⟩ : ∃ p q, m = .node p q := T.node_of_h (by omega)
    have hq : decide (a.h < (T.node p q).h) = true := by simpa using hlt
    have HG : Hid (leanR r (.node p q) a = .node (.node r p) (.node q a)) := Lib.hid (by unfold leanR; rw [if_pos hlt])
    rw [HG.out]
    obtain ⟨Am, nm, cm', Am', nm', cm'', xp, yp, hm, hp, hq2⟩ := HY.out
    have HM := Lib.hid hm
    have HP := Lib.hid hp
    have HQ := Lib.hid hq2
    have e0 : (T.node p q).n = p.n + q.n := rfl
    clear hm hp hq2 HG HY hlt
    generalize (T.node p q).h = mh at *
    generalize a.h = ah at *
    go_enter Tryd.func70, Tryd.ntmps70
    go_wp2_with fail
    go_quiet (fail)
    rename Nat => nq1
    go_wp2_with fail
    go_quiet (fail)
    rename Nat => nq2
    go_upto_region 3 with (fail)
    have hbq : Below w.heap.size w ((w.drewN nq1).drewN nq2).drew := (below_drewN (below_drewN (Below.refl _ _) _) _).drew
    generalize (w.drewN nq1).drewN nq2 = wq at *
    have hS0 : wq.drew.cell? ⟨y, 100, none⟩ = some (.pointer (some ⟨xp, 0, none⟩)) ∧ wq.drew.cell? ⟨y, 101, none⟩ = some (.pointer (some ⟨yp, 0, none⟩)) := HM.out.sides hbq
    refine wp_region_held_drew (S := fun w' => w'.cell? ⟨y, 100, none⟩ = some (.pointer (some ⟨xp, 0, none⟩)) ∧ w'.cell? ⟨y, 101, none⟩ = some (.pointer (some ⟨yp, 0, none⟩))) (by kernel_rfl) hS0 (fun hHeld => ?_)
    refine wpAnyH_take (i := 0) (oi := { dst := some 26, op := Op.move (Operand.tmp 0), type := 78, pos := "node.go:56", after := #[], guard := none }) (v := ?_) rfl (by kernel_rfl) (by kernel_rfl) (by kernel_rfl) (fun _ _ _ h => h) (Or.inl ⟨by rfl, ?_⟩) (by assumption) ?_
    rotate_left
    · first | (intro w hSw; (try dsimp only at hSw); go_simp; done) | (intro w hSw; (try dsimp only at hSw); go_simp; with_reducible rfl)
    simp only [Act.put, List.setIfInBounds_toArray, List.set_cons_zero, List.set_cons_succ]
    refine wpAnyH_take (i := 1) (oi := { dst := some 27, op := Op.move (Operand.tmp 5), type := 78, pos := "node.go:56", after := #[], guard := none }) (v := ?_) rfl (by kernel_rfl) (by kernel_rfl) (by kernel_rfl) (fun _ _ _ h => h) (Or.inl ⟨by rfl, ?_⟩) (by assumption) ?_
    rotate_left
    · first | (intro w hSw; (try dsimp only at hSw); go_simp; done) | (intro w hSw; (try dsimp only at hSw); go_simp; with_reducible rfl)
    simp only [Act.put, List.setIfInBounds_toArray, List.set_cons_zero, List.set_cons_succ]
    refine wpAnyH_take (i := 2) (oi := { dst := some 28, op := Op.nilCheck (Operand.tmp 27), type := 0, pos := "node.go:56", after := #[{ on := 1, ground := Ground.data }], guard := none }) (v := ?_) rfl (by kernel_rfl) (by kernel_rfl) (by kernel_rfl) (fun _ _ _ h => h) (Or.inl ⟨by rfl, ?_⟩) (by assumption) ?_
    rotate_left
    · first | (intro w hSw; (try dsimp only at hSw); go_simp; done) | (intro w hSw; (try dsimp only at hSw); go_simp; with_reducible rfl)
    simp only [Act.put, List.setIfInBounds_toArray, List.set_cons_zero, List.set_cons_succ]
    refine wpAnyH_take (i := 3) (oi := { dst := some 29, op := Op.fieldAddr 88 (Operand.tmp 28) 2, type := 0, pos := "node.go:56", after := #[{ on := 2, ground := Ground.data }], guard := none }) (v := ?_) rfl (by kernel_rfl) (by kernel_rfl) (by kernel_rfl) (fun _ _ _ h => h) (Or.inl ⟨by rfl, ?_⟩) (by assumption) ?_
    rotate_left
    · first | (intro w hSw; (try dsimp only at hSw); go_simp; done) | (intro w hSw; (try dsimp only at hSw); go_simp; with_reducible rfl)
    simp only [Act.put, List.setIfInBounds_toArray, List.set_cons_zero, List.set_cons_succ]
    refine wpAnyH_take (i := 4) (oi := { dst := some 30, op := Op.load 78 (Operand.tmp 29), type := 78, pos := "node.go:56", after := #[{ on := 3, ground := Ground.data }], guard := none }) (v := ?_) rfl (by kernel_rfl) (by kernel_rfl) (by kernel_rfl) (fun _ _ _ h => h) (Or.inl ⟨by rfl, ?_⟩) (by assumption) ?_
    rotate_left
    · first | (intro w hSw; (try dsimp only at hSw); go_simp; done) | (intro w hSw; (try dsimp only at hSw); go_simp; with_reducible rfl)
    simp only [Act.put, List.setIfInBounds_toArray, List.set_cons_zero, List.set_cons_succ]
    refine wpAnyH_take (i := 6) (oi := { dst := some 32, op := Op.move (Operand.tmp 5), type := 78, pos := "node.go:56", after := #[], guard := none }) (v := ?_) rfl (by kernel_rfl) (by kernel_rfl) (by kernel_rfl) (fun _ _ _ h => h) (Or.inl ⟨by rfl, ?_⟩) (by assumption) ?_
    rotate_left
    · first | (intro w hSw; (try dsimp only at hSw); go_simp; done) | (intro w hSw; (try dsimp only at hSw); go_simp; with_reducible rfl)
    simp only [Act.put, List.setIfInBounds_toArray, List.set_cons_zero, List.set_cons_succ]
    refine wpAnyH_take (i := 7) (oi := { dst := some 33, op := Op.nilCheck (Operand.tmp 32), type := 0, pos := "node.go:56", after := #[{ on := 6, ground := Ground.data }], guard := none }) (v := ?_) rfl (by kernel_rfl) (by kernel_rfl) (by kernel_rfl) (fun _ _ _ h => h) (Or.inl ⟨by rfl, ?_⟩) (by assumption) ?_
    rotate_left
    · first | (intro w hSw; (try dsimp only at hSw); go_simp; done) | (intro w hSw; (try dsimp only at hSw); go_simp; with_reducible rfl)
    simp only [Act.put, List.setIfInBounds_toArray, List.set_cons_zero, List.set_cons_succ]
    refine wpAnyH_take (i := 8) (oi := { dst := some 34, op := Op.fieldAddr 88 (Operand.tmp 33) 3, type := 0, pos := "node.go:56", after := #[{ on := 7, ground := Ground.data }], guard := none }) (v := ?_) rfl (by kernel_rfl) (by kernel_rfl) (by kernel_rfl) (fun _ _ _ h => h) (Or.inl ⟨by rfl, ?_⟩) (by assumption) ?_
    rotate_left
    · first | (intro w hSw; (try dsimp only at hSw); go_simp; done) | (intro w hSw; (try dsimp only at hSw); go_simp; with_reducible rfl)
    simp only [Act.put, List.setIfInBounds_toArray, List.set_cons_zero, List.set_cons_succ]
    refine wpAnyH_take (i := 9) (oi := { dst := some 35, op := Op.load 78 (Operand.tmp 34), type := 78, pos := "node.go:56", after := #[{ on := 8, ground := Ground.data }], guard := none }) (v := ?_) rfl (by kernel_rfl) (by kernel_rfl) (by kernel_rfl) (fun _ _ _ h => h) (Or.inl ⟨by rfl, ?_⟩) (by assumption) ?_
    rotate_left
    · first | (intro w hSw; (try dsimp only at hSw); go_simp; done) | (intro w hSw; (try dsimp only at hSw); go_simp; with_reducible rfl)
    simp only [Act.put, List.setIfInBounds_toArray, List.set_cons_zero, List.set_cons_succ]
    refine wpAnyH_take (i := 10) (oi := { dst := some 36, op := Op.move (Operand.tmp 6), type := 78, pos := "node.go:56", after := #[], guard := none }) (v := ?_) rfl (by kernel_rfl) (by kernel_rfl) (by kernel_rfl) (fun _ _ _ h => h) (Or.inl ⟨by rfl, ?_⟩) (by assumption) ?_
    rotate_left
    · first | (intro w hSw; (try dsimp only at hSw); go_simp; done) | (intro w hSw; (try dsimp only at hSw); go_simp; with_reducible rfl)
    simp only [Act.put, List.setIfInBounds_toArray, List.set_cons_zero, List.set_cons_succ]
    clear hS0 hHeld c100 c101 ca cm hq
    generalize wq.drew = w1 at *
    have hs1 := hbq.size
    have HC1 := Lib.hid (above_any r p br xp w1 (HR.out.on hbq) (HP.out.on hbq) (by omega) (Sh.tab_below HT.out hbq hw.1) (hw.on hbq))
    rw [ptr_some, ptr_some] at HC1
    refine wpAnyH_ready (rs := [5]) (by kernel_rfl) (by simp) ?_
    refine AllReadyH.cons rfl (fun K hK => ?_) AllReadyH.nil
    go_simp
    refine HC1.out.mono ?_
    rintro e w2 ⟨b1, rfl, hN1, hb2⟩
    rw [ptr_some]
    replace hb2 := hbq.trans (hb2.mono hbq.size)
    have hs2 := hb2.size
    have HN1 := Lib.hid hN1
    refine hK.out _ _ (HM.out.sides hb2) (fun _ => ?_)
    clear hK K hN1 HC1 hbq hs1
    have HC2 := Lib.hid (above_any q a yp x w2 (HQ.out.on hb2) (HX.out.on hb2) (by omega) (Sh.tab_below HT.out hb2 hw.1) (hw.on hb2))
    rw [ptr_some, ptr_some] at HC2
    refine wpAnyH_ready (rs := [11]) (by kernel_rfl) (by simp) ?_
    refine AllReadyH.cons rfl (fun K hK => ?_) AllReadyH.nil
    go_simp
    refine HC2.out.mono ?_
    rintro e w3 ⟨b2, rfl, hN2, hb3⟩
    rw [ptr_some]
    have HN13 := Lib.hid (HN1.out.on hb3)
    replace hb3 := hb2.trans (hb3.mono hb2.size)
    have hs3 := hb3.size
    have HN2 := Lib.hid hN2
    refine hK.out _ _ (HM.out.sides hb3) (fun _ => ?_)
    clear hK K hN2 HC2 hb2 hs2 HN1
    have HC3 := Lib.hid (above_any (.node r p) (.node q a) b1 b2 w3 HN13.out HN2.out (by show (r.n + p.n) + (q.n + a.n) ≤ _; omega) (Sh.tab_below HT.out hb3 hw.1) (hw.on hb3))
    rw [ptr_some, ptr_some] at HC3
    refine wpAnyH_ready (rs := [12]) (by kernel_rfl) (by simp) ?_
    refine AllReadyH.cons rfl (fun K hK => ?_) AllReadyH.nil
    go_simp
    refine HC3.out.mono ?_
    rintro e w4 ⟨b3, rfl, hN3, hb4⟩
    rw [ptr_some]
    replace hb4 := hb3.trans (hb4.mono hb3.size)
    have HN3 := Lib.hid hN3
    have HB4 := Lib.hid hb4
    have hHeld := HM.out.sides hb4
    refine hK.out _ _ hHeld (fun _ => ?_)
    clear hK K hN3 HC3 hb3 hs3 HN13 HN2 hb4
    refine wpAnyH_take (i := 13) (oi := { dst := some 4, op := Op.assign (Operand.tmp 38), type := 78, pos := "node.go:56", after := #[{ on := 12, ground := Ground.data }, { on := 12, ground := Ground.chain }, { on := 0, ground := Ground.phase }, { on := 1, ground := Ground.phase }, { on := 2, ground := Ground.phase }, { on := 3, ground := Ground.phase }, { on := 4, ground := Ground.phase }, { on := 5, ground := Ground.phase }, { on := 6, ground := Ground.phase }, { on := 7, ground := Ground.phase }, { on := 8, ground := Ground.phase }, { on := 9, ground := Ground.phase }, { on := 10, ground := Ground.phase }, { on := 11, ground := Ground.phase }, { on := 12, ground := Ground.phase }], guard := none }) (v := ?_) rfl (by kernel_rfl) (by kernel_rfl) (by kernel_rfl) (fun _ _ _ h => h) (Or.inl ⟨by rfl, ?_⟩) (by assumption) ?_
    rotate_left
    · first | (intro w hSw; (try dsimp only at hSw); go_simp; done) | (intro w hSw; (try dsimp only at hSw); go_simp; with_reducible rfl)
    simp only [Act.put, List.setIfInBounds_toArray, List.set_cons_zero, List.set_cons_succ]
    refine wpAnyH_done (by kernel_rfl) ?_ _
    clear hHeld
    go_wp2_with fail
    go_ret
    exact ⟨b3, rfl, HN3.out, HB4.out⟩
  · have hq : decide (a.h < m.h) = false := by simpa using hlt
    have HG : Hid (leanR r m a = .node (.node r m) a) := Lib.hid (by unfold leanR; rw [if_neg hlt])
    rw [HG.out]
    clear HG hlt
    generalize m.h = mh at *
    generalize a.h = ah at *
    go_enter Tryd.func70, Tryd.ntmps70
    go_wp2_with fail
    go_quiet (fail)
    rename Nat => nq1
    go_wp2_with fail
    go_quiet (fail)
    rename Nat => nq2
    have hbq : Below w.heap.size w ((w.drewN nq1).drewN nq2) := below_drewN (below_drewN (Below.refl _ _) _) _
    go_upto_region 4 with (fail)
    generalize (w.drewN nq1).drewN nq2 = w1 at *
    clear c100 c101 ca cm hq
    have hs1 := hbq.size
    have HC1 := Lib.hid (above_any r m br y w1 (HR.out.on hbq) (HY.out.on hbq) (by omega) (Sh.tab_below HT.out hbq hw.1) (hw.on hbq))
    rw [ptr_some, ptr_some] at HC1
    go_wp2_with fail
    refine HC1.out.mono ?_
    rintro e w2 ⟨b1, rfl, hN1, hb2⟩
    rw [ptr_some]
    replace hb2 := hbq.trans (hb2.mono hbq.size)
    have hs2 := hb2.size
    have HC2 := Lib.hid (above_any (.node r m) a b1 x w2 hN1 (HX.out.on hb2) (by show (r.n + m.n) + a.n ≤ _; omega) (Sh.tab_below HT.out hb2 hw.1) (hw.on hb2))
    rw [ptr_some, ptr_some] at HC2
    have HB2 := Lib.hid hb2
    clear hN1 HC1 hbq hs1 hb2 hs2
    go_wp2_with fail
    refine HC2.out.mono ?_
    rintro e w3 ⟨b2, rfl, hN2, hb3⟩
    rw [ptr_some]
    have HN2 := Lib.hid hN2
    have HB3 := Lib.hid (HB2.out.trans (hb3.mono HB2.out.size))
    clear hN2 hb3 HC2 HB2
    go_wp2_with fail
    go_ret
    exact ⟨b2, rfl, HN2.out, HB3.out⟩
end Go.Proofs.YtceillnmcccckaaDoor
