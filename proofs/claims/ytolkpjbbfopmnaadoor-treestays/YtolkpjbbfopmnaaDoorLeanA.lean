/-
  What leaningLeft and leaningRight return: a node above what is beneath two, turned; conditions: both lie in memory, their leaves are no more than 4294967296, the table holds its words. They only make memory of their own.
  What balanced returns: a balanced node above two; conditions: both lie in memory, their leaves are no more than 4294967296, the table holds its words. It only makes memory of its own.
  What beside and with return: a tree with one more leaf; conditions: tree and leaf lie in memory, there are fewer than 4294967296 leaves, the table holds its words. They only make memory of their own.
-/
import Derived.Test.YtolkpjbbfopmnaaDoorAbove
namespace Go.Proofs.YtolkpjbbfopmnaaDoor
open Go.RowKit
open Tr
variable {G : Nat → Prop}

/-- Where the two beneath a node are, and how high it is. -/
theorem NHas.sides {w w' : World} {B b n c n' c' x y : Nat} {t : T} {A A' : Option Addr} (h : NHas G w B t b A n c A' n' c' (some x) (some y)) (hb : Below B w w') :
    w'.cell? ⟨b, 100, none⟩ = some (.pointer (some ⟨x, 0, none⟩)) ∧ w'.cell? ⟨b, 101, none⟩ = some (.pointer (some ⟨y, 0, none⟩)) := by
  obtain ⟨_, _, _, _, c100, c101⟩ := (h.below hb (Nat.le_refl _)).cells
  exact ⟨c100, c101⟩
theorem NIn.high {w w' : World} {B b : Nat} {t : T} (h : NIn G w B t b) (hb : Below B w w') : w'.cell? ⟨b, 2, none⟩ = some (.int .i64 t.h) := by
  obtain ⟨A, n, c, A', n', c', x, y, hh⟩ := (h.below hb (Nat.le_refl _)).has
  exact hh.cells.2.2.1
theorem NIn.on {w w' : World} {t : T} {b : Nat} (h : NIn G w w.heap.size t b) (hb : Below w.heap.size w w') : NIn G w' w'.heap.size t b := (h.below hb (Nat.le_refl _)).more hb.size

set_option maxRecDepth 100000 in
set_option maxHeartbeats 1000000 in
theorem leanL_any (a m r : T) (b br : Nat) (w : World) (hl : NIn G w w.heap.size (.node a m) b) (hr : NIn G w w.heap.size r br) (hn : a.n + m.n + r.n ≤ 4294967296) (ht : Sh.Tab w 1) (hw : Room G w) :
    Calls Tryd.prog 84 #[ptr (some b), ptr (some br)] w (NodePost G (leanL a m r) w) := by
  obtain ⟨A, n, c, A', n', c', x, y, hh, hx, hy⟩ := hl
  have hbr := hr.lt
  obtain ⟨c100, c101⟩ := hh.sides (Below.refl _ _)
  have ca := hx.high (Below.refl _ _)
  have cm := hy.high (Below.refl _ _)
  have HX := Lib.hid hx
  have HY := Lib.hid hy
  have HR := Lib.hid hr
  have HT := Lib.hid ht
  clear hh hx hy hr ht
  rw [ptr_some, ptr_some]
  by_cases hlt : a.h < m.h
  · obtain ⟨p, q, rfl⟩ : ∃ p q, m = .node p q := T.node_of_h (by omega)
    have hq : decide (a.h < (T.node p q).h) = true := by simpa using hlt
    have HG : Hid (leanL a (.node p q) r = .node (.node a p) (.node q r)) := Lib.hid (by unfold leanL; rw [if_pos hlt])
    rw [HG.out]
    obtain ⟨Am, nm, cm', Am', nm', cm'', xp, yp, hm, hp, hq2⟩ := HY.out
    have HM := Lib.hid hm
    have HP := Lib.hid hp
    have HQ := Lib.hid hq2
    have e0 : (T.node p q).n = p.n + q.n := rfl
    clear hm hp hq2 HG HY hlt
    generalize (T.node p q).h = mh at *
    generalize a.h = ah at *
    go_enter Tryd.func84, Tryd.ntmps84
    go_wp2_with fail
    go_quiet (fail)
    rename Nat => nq1
    go_wp2_with fail
    go_quiet (fail)
    rename Nat => nq2
    go_upto_region 3 with (fail)
    have hbq : Below w.heap.size w ((w.drewN nq1).drewN nq2).drew := (below_drewN (below_drewN (Below.refl _ _) _) _).drew
    generalize (w.drewN nq1).drewN nq2 = wq at *
    have hS0 : wq.drew.cell? ⟨y, 100, none⟩ = some (.pointer (some ⟨xp, 0, none⟩)) ∧ wq.drew.cell? ⟨y, 101, none⟩ = some (.pointer (some ⟨yp, 0, none⟩)) := HM.out.sides hbq
    refine wp_region_held_drew (S := fun w' => w'.cell? ⟨y, 100, none⟩ = some (.pointer (some ⟨xp, 0, none⟩)) ∧ w'.cell? ⟨y, 101, none⟩ = some (.pointer (some ⟨yp, 0, none⟩))) (by kernel_rfl) hS0 (fun hHeld => ?_)
    refine wpAnyH_take (i := 0) (oi := { dst := some 26, op := Op.move (Operand.tmp 5), type := 79, pos := "node.go:48", after := #[], guard := none }) (v := ?_) rfl (by kernel_rfl) (by kernel_rfl) (by kernel_rfl) (fun _ _ _ h => h) (Or.inl ⟨by rfl, ?_⟩) (by assumption) ?_
    rotate_left
    · first | (intro w hSw; (try dsimp only at hSw); go_simp; done) | (intro w hSw; (try dsimp only at hSw); go_simp; with_reducible rfl)
    simp only [Act.put, List.setIfInBounds_toArray, List.set_cons_zero, List.set_cons_succ]
    refine wpAnyH_take (i := 1) (oi := { dst := some 27, op := Op.move (Operand.tmp 6), type := 79, pos := "node.go:48", after := #[], guard := none }) (v := ?_) rfl (by kernel_rfl) (by kernel_rfl) (by kernel_rfl) (fun _ _ _ h => h) (Or.inl ⟨by rfl, ?_⟩) (by assumption) ?_
    rotate_left
    · first | (intro w hSw; (try dsimp only at hSw); go_simp; done) | (intro w hSw; (try dsimp only at hSw); go_simp; with_reducible rfl)
    simp only [Act.put, List.setIfInBounds_toArray, List.set_cons_zero, List.set_cons_succ]
    refine wpAnyH_take (i := 2) (oi := { dst := some 28, op := Op.nilCheck (Operand.tmp 27), type := 0, pos := "node.go:48", after := #[{ on := 1, ground := Ground.data }], guard := none }) (v := ?_) rfl (by kernel_rfl) (by kernel_rfl) (by kernel_rfl) (fun _ _ _ h => h) (Or.inl ⟨by rfl, ?_⟩) (by assumption) ?_
    rotate_left
    · first | (intro w hSw; (try dsimp only at hSw); go_simp; done) | (intro w hSw; (try dsimp only at hSw); go_simp; with_reducible rfl)
    simp only [Act.put, List.setIfInBounds_toArray, List.set_cons_zero, List.set_cons_succ]
    refine wpAnyH_take (i := 3) (oi := { dst := some 29, op := Op.fieldAddr 82 (Operand.tmp 28) 2, type := 0, pos := "node.go:48", after := #[{ on := 2, ground := Ground.data }], guard := none }) (v := ?_) rfl (by kernel_rfl) (by kernel_rfl) (by kernel_rfl) (fun _ _ _ h => h) (Or.inl ⟨by rfl, ?_⟩) (by assumption) ?_
    rotate_left
    · first | (intro w hSw; (try dsimp only at hSw); go_simp; done) | (intro w hSw; (try dsimp only at hSw); go_simp; with_reducible rfl)
    simp only [Act.put, List.setIfInBounds_toArray, List.set_cons_zero, List.set_cons_succ]
    refine wpAnyH_take (i := 4) (oi := { dst := some 30, op := Op.load 79 (Operand.tmp 29), type := 79, pos := "node.go:48", after := #[{ on := 3, ground := Ground.data }], guard := none }) (v := ?_) rfl (by kernel_rfl) (by kernel_rfl) (by kernel_rfl) (fun _ _ _ h => h) (Or.inl ⟨by rfl, ?_⟩) (by assumption) ?_
    rotate_left
    · first | (intro w hSw; (try dsimp only at hSw); go_simp; done) | (intro w hSw; (try dsimp only at hSw); go_simp; with_reducible rfl)
    simp only [Act.put, List.setIfInBounds_toArray, List.set_cons_zero, List.set_cons_succ]
    refine wpAnyH_take (i := 6) (oi := { dst := some 32, op := Op.move (Operand.tmp 6), type := 79, pos := "node.go:48", after := #[], guard := none }) (v := ?_) rfl (by kernel_rfl) (by kernel_rfl) (by kernel_rfl) (fun _ _ _ h => h) (Or.inl ⟨by rfl, ?_⟩) (by assumption) ?_
    rotate_left
    · first | (intro w hSw; (try dsimp only at hSw); go_simp; done) | (intro w hSw; (try dsimp only at hSw); go_simp; with_reducible rfl)
    simp only [Act.put, List.setIfInBounds_toArray, List.set_cons_zero, List.set_cons_succ]
    refine wpAnyH_take (i := 7) (oi := { dst := some 33, op := Op.nilCheck (Operand.tmp 32), type := 0, pos := "node.go:48", after := #[{ on := 6, ground := Ground.data }], guard := none }) (v := ?_) rfl (by kernel_rfl) (by kernel_rfl) (by kernel_rfl) (fun _ _ _ h => h) (Or.inl ⟨by rfl, ?_⟩) (by assumption) ?_
    rotate_left
    · first | (intro w hSw; (try dsimp only at hSw); go_simp; done) | (intro w hSw; (try dsimp only at hSw); go_simp; with_reducible rfl)
    simp only [Act.put, List.setIfInBounds_toArray, List.set_cons_zero, List.set_cons_succ]
    refine wpAnyH_take (i := 8) (oi := { dst := some 34, op := Op.fieldAddr 82 (Operand.tmp 33) 3, type := 0, pos := "node.go:48", after := #[{ on := 7, ground := Ground.data }], guard := none }) (v := ?_) rfl (by kernel_rfl) (by kernel_rfl) (by kernel_rfl) (fun _ _ _ h => h) (Or.inl ⟨by rfl, ?_⟩) (by assumption) ?_
    rotate_left
    · first | (intro w hSw; (try dsimp only at hSw); go_simp; done) | (intro w hSw; (try dsimp only at hSw); go_simp; with_reducible rfl)
    simp only [Act.put, List.setIfInBounds_toArray, List.set_cons_zero, List.set_cons_succ]
    refine wpAnyH_take (i := 9) (oi := { dst := some 35, op := Op.load 79 (Operand.tmp 34), type := 79, pos := "node.go:48", after := #[{ on := 8, ground := Ground.data }], guard := none }) (v := ?_) rfl (by kernel_rfl) (by kernel_rfl) (by kernel_rfl) (fun _ _ _ h => h) (Or.inl ⟨by rfl, ?_⟩) (by assumption) ?_
    rotate_left
    · first | (intro w hSw; (try dsimp only at hSw); go_simp; done) | (intro w hSw; (try dsimp only at hSw); go_simp; with_reducible rfl)
    simp only [Act.put, List.setIfInBounds_toArray, List.set_cons_zero, List.set_cons_succ]
    refine wpAnyH_take (i := 10) (oi := { dst := some 36, op := Op.move (Operand.tmp 1), type := 79, pos := "node.go:48", after := #[], guard := none }) (v := ?_) rfl (by kernel_rfl) (by kernel_rfl) (by kernel_rfl) (fun _ _ _ h => h) (Or.inl ⟨by rfl, ?_⟩) (by assumption) ?_
    rotate_left
    · first | (intro w hSw; (try dsimp only at hSw); go_simp; done) | (intro w hSw; (try dsimp only at hSw); go_simp; with_reducible rfl)
    simp only [Act.put, List.setIfInBounds_toArray, List.set_cons_zero, List.set_cons_succ]
    clear hS0 hHeld c100 c101 ca cm hq
    generalize wq.drew = w1 at *
    have hs1 := hbq.size
    have HC1 := Lib.hid (above_any a p x xp w1 (HX.out.on hbq) (HP.out.on hbq) (by omega) (Sh.tab_below HT.out hbq hw.1) (hw.on hbq))
    rw [ptr_some, ptr_some] at HC1
    refine wpAnyH_ready (rs := [5]) (by kernel_rfl) (by simp) ?_
    refine AllReadyH.cons rfl (fun K hK => ?_) AllReadyH.nil
    go_simp
    refine HC1.out.mono ?_
    rintro e w2 ⟨b1, rfl, hN1, hb2⟩
    rw [ptr_some]
    replace hb2 := hbq.trans (hb2.mono hbq.size)
    have hs2 := hb2.size
    have HN1 := Lib.hid hN1
    refine hK.out _ _ (HM.out.sides hb2) (fun _ => ?_)
    clear hK K hN1 HC1 hbq hs1
    have HC2 := Lib.hid (above_any q r yp br w2 (HQ.out.on hb2) (HR.out.on hb2) (by omega) (Sh.tab_below HT.out hb2 hw.1) (hw.on hb2))
    rw [ptr_some, ptr_some] at HC2
    refine wpAnyH_ready (rs := [11]) (by kernel_rfl) (by simp) ?_
    refine AllReadyH.cons rfl (fun K hK => ?_) AllReadyH.nil
    go_simp
    refine HC2.out.mono ?_
    rintro e w3 ⟨b2, rfl, hN2, hb3⟩
    rw [ptr_some]
    have HN13 := Lib.hid (HN1.out.on hb3)
    replace hb3 := hb2.trans (hb3.mono hb2.size)
    have hs3 := hb3.size
    have HN2 := Lib.hid hN2
    refine hK.out _ _ (HM.out.sides hb3) (fun _ => ?_)
    clear hK K hN2 HC2 hb2 hs2 HN1
    have HC3 := Lib.hid (above_any (.node a p) (.node q r) b1 b2 w3 HN13.out HN2.out (by show (a.n + p.n) + (q.n + r.n) ≤ _; omega) (Sh.tab_below HT.out hb3 hw.1) (hw.on hb3))
    rw [ptr_some, ptr_some] at HC3
    refine wpAnyH_ready (rs := [12]) (by kernel_rfl) (by simp) ?_
    refine AllReadyH.cons rfl (fun K hK => ?_) AllReadyH.nil
    go_simp
    refine HC3.out.mono ?_
    rintro e w4 ⟨b3, rfl, hN3, hb4⟩
    rw [ptr_some]
    replace hb4 := hb3.trans (hb4.mono hb3.size)
    have HN3 := Lib.hid hN3
    have HB4 := Lib.hid hb4
    have hHeld := HM.out.sides hb4
    refine hK.out _ _ hHeld (fun _ => ?_)
    clear hK K hN3 HC3 hb3 hs3 HN13 HN2 hb4
    refine wpAnyH_take (i := 13) (oi := { dst := some 4, op := Op.assign (Operand.tmp 38), type := 79, pos := "node.go:48", after := #[{ on := 12, ground := Ground.data }, { on := 12, ground := Ground.chain }, { on := 0, ground := Ground.phase }, { on := 1, ground := Ground.phase }, { on := 2, ground := Ground.phase }, { on := 3, ground := Ground.phase }, { on := 4, ground := Ground.phase }, { on := 5, ground := Ground.phase }, { on := 6, ground := Ground.phase }, { on := 7, ground := Ground.phase }, { on := 8, ground := Ground.phase }, { on := 9, ground := Ground.phase }, { on := 10, ground := Ground.phase }, { on := 11, ground := Ground.phase }, { on := 12, ground := Ground.phase }], guard := none }) (v := ?_) rfl (by kernel_rfl) (by kernel_rfl) (by kernel_rfl) (fun _ _ _ h => h) (Or.inl ⟨by rfl, ?_⟩) (by assumption) ?_
    rotate_left
    · first | (intro w hSw; (try dsimp only at hSw); go_simp; done) | (intro w hSw; (try dsimp only at hSw); go_simp; with_reducible rfl)
    simp only [Act.put, List.setIfInBounds_toArray, List.set_cons_zero, List.set_cons_succ]
    refine wpAnyH_done (by kernel_rfl) ?_ _
    clear hHeld
    go_wp2_with fail
    go_ret
    exact ⟨b3, rfl, HN3.out, HB4.out⟩
  · have hq : decide (a.h < m.h) = false := by simpa using hlt
    have HG : Hid (leanL a m r = .node a (.node m r)) := Lib.hid (by unfold leanL; rw [if_neg hlt])
    rw [HG.out]
    clear HG hlt
    generalize m.h = mh at *
    generalize a.h = ah at *
    go_enter Tryd.func84, Tryd.ntmps84
    go_wp2_with fail
    go_quiet (fail)
    rename Nat => nq1
    go_wp2_with fail
    go_quiet (fail)
    rename Nat => nq2
    have hbq : Below w.heap.size w ((w.drewN nq1).drewN nq2) := below_drewN (below_drewN (Below.refl _ _) _) _
    go_upto_region 4 with (fail)
    generalize (w.drewN nq1).drewN nq2 = w1 at *
    clear c100 c101 ca cm hq
    have hs1 := hbq.size
    have HC1 := Lib.hid (above_any m r y br w1 (HY.out.on hbq) (HR.out.on hbq) (by omega) (Sh.tab_below HT.out hbq hw.1) (hw.on hbq))
    rw [ptr_some, ptr_some] at HC1
    go_wp2_with fail
    refine HC1.out.mono ?_
    rintro e w2 ⟨b1, rfl, hN1, hb2⟩
    rw [ptr_some]
    replace hb2 := hbq.trans (hb2.mono hbq.size)
    have hs2 := hb2.size
    have HC2 := Lib.hid (above_any a (.node m r) x b1 w2 (HX.out.on hb2) hN1 (by show a.n + (m.n + r.n) ≤ _; omega) (Sh.tab_below HT.out hb2 hw.1) (hw.on hb2))
    rw [ptr_some, ptr_some] at HC2
    have HB2 := Lib.hid hb2
    clear hN1 HC1 hbq hs1 hb2 hs2
    go_wp2_with fail
    refine HC2.out.mono ?_
    rintro e w3 ⟨b2, rfl, hN2, hb3⟩
    rw [ptr_some]
    have HN2 := Lib.hid hN2
    have HB3 := Lib.hid (HB2.out.trans (hb3.mono HB2.out.size))
    clear hN2 hb3 HC2 HB2
    go_wp2_with fail
    go_ret
    exact ⟨b2, rfl, HN2.out, HB3.out⟩
set_option maxRecDepth 100000 in
set_option maxHeartbeats 1000000 in
theorem leanR_any (r m a : T) (br b : Nat) (w : World) (hl : NIn G w w.heap.size r br) (hr : NIn G w w.heap.size (.node m a) b) (hn : r.n + m.n + a.n ≤ 4294967296) (ht : Sh.Tab w 1) (hw : Room G w) :
    Calls Tryd.prog 85 #[ptr (some br), ptr (some b)] w (NodePost G (leanR r m a) w) := by
  obtain ⟨A, n, c, A', n', c', y, x, hh, hy, hx⟩ := hr
  have hbr := hl.lt
  obtain ⟨c100, c101⟩ := hh.sides (Below.refl _ _)
  have ca := hx.high (Below.refl _ _)
  have cm := hy.high (Below.refl _ _)
  have HX := Lib.hid hx
  have HY := Lib.hid hy
  have HR := Lib.hid hl
  have HT := Lib.hid ht
  clear hh hx hy hl ht
  rw [ptr_some, ptr_some]
  by_cases hlt : a.h < m.h
  · obtain ⟨p, q, rfl⟩ : ∃ p q, m = .node p q := T.node_of_h (by omega)
    have hq : decide (a.h < (T.node p q).h) = true := by simpa using hlt
    have HG : Hid (leanR r (.node p q) a = .node (.node r p) (.node q a)) := Lib.hid (by unfold leanR; rw [if_pos hlt])
    rw [HG.out]
    obtain ⟨Am, nm, cm', Am', nm', cm'', xp, yp, hm, hp, hq2⟩ := HY.out
    have HM := Lib.hid hm
    have HP := Lib.hid hp
    have HQ := Lib.hid hq2
    have e0 : (T.node p q).n = p.n + q.n := rfl
    clear hm hp hq2 HG HY hlt
    generalize (T.node p q).h = mh at *
    generalize a.h = ah at *
    go_enter Tryd.func85, Tryd.ntmps85
    go_wp2_with fail
    go_quiet (fail)
    rename Nat => nq1
    go_wp2_with fail
    go_quiet (fail)
    rename Nat => nq2
    go_upto_region 3 with (fail)
    have hbq : Below w.heap.size w ((w.drewN nq1).drewN nq2).drew := (below_drewN (below_drewN (Below.refl _ _) _) _).drew
    generalize (w.drewN nq1).drewN nq2 = wq at *
    have hS0 : wq.drew.cell? ⟨y, 100, none⟩ = some (.pointer (some ⟨xp, 0, none⟩)) ∧ wq.drew.cell? ⟨y, 101, none⟩ = some (.pointer (some ⟨yp, 0, none⟩)) := HM.out.sides hbq
    refine wp_region_held_drew (S := fun w' => w'.cell? ⟨y, 100, none⟩ = some (.pointer (some ⟨xp, 0, none⟩)) ∧ w'.cell? ⟨y, 101, none⟩ = some (.pointer (some ⟨yp, 0, none⟩))) (by kernel_rfl) hS0 (fun hHeld => ?_)
    refine wpAnyH_take (i := 0) (oi := { dst := some 26, op := Op.move (Operand.tmp 0), type := 79, pos := "node.go:56", after := #[], guard := none }) (v := ?_) rfl (by kernel_rfl) (by kernel_rfl) (by kernel_rfl) (fun _ _ _ h => h) (Or.inl ⟨by rfl, ?_⟩) (by assumption) ?_
    rotate_left
    · first | (intro w hSw; (try dsimp only at hSw); go_simp; done) | (intro w hSw; (try dsimp only at hSw); go_simp; with_reducible rfl)
    simp only [Act.put, List.setIfInBounds_toArray, List.set_cons_zero, List.set_cons_succ]
    refine wpAnyH_take (i := 1) (oi := { dst := some 27, op := Op.move (Operand.tmp 5), type := 79, pos := "node.go:56", after := #[], guard := none }) (v := ?_) rfl (by kernel_rfl) (by kernel_rfl) (by kernel_rfl) (fun _ _ _ h => h) (Or.inl ⟨by rfl, ?_⟩) (by assumption) ?_
    rotate_left
    · first | (intro w hSw; (try dsimp only at hSw); go_simp; done) | (intro w hSw; (try dsimp only at hSw); go_simp; with_reducible rfl)
    simp only [Act.put, List.setIfInBounds_toArray, List.set_cons_zero, List.set_cons_succ]
    refine wpAnyH_take (i := 2) (oi := { dst := some 28, op := Op.nilCheck (Operand.tmp 27), type := 0, pos := "node.go:56", after := #[{ on := 1, ground := Ground.data }], guard := none }) (v := ?_) rfl (by kernel_rfl) (by kernel_rfl) (by kernel_rfl) (fun _ _ _ h => h) (Or.inl ⟨by rfl, ?_⟩) (by assumption) ?_
    rotate_left
    · first | (intro w hSw; (try dsimp only at hSw); go_simp; done) | (intro w hSw; (try dsimp only at hSw); go_simp; with_reducible rfl)
    simp only [Act.put, List.setIfInBounds_toArray, List.set_cons_zero, List.set_cons_succ]
    refine wpAnyH_take (i := 3) (oi := { dst := some 29, op := Op.fieldAddr 82 (Operand.tmp 28) 2, type := 0, pos := "node.go:56", after := #[{ on := 2, ground := Ground.data }], guard := none }) (v := ?_) rfl (by kernel_rfl) (by kernel_rfl) (by kernel_rfl) (fun _ _ _ h => h) (Or.inl ⟨by rfl, ?_⟩) (by assumption) ?_
    rotate_left
    · first | (intro w hSw; (try dsimp only at hSw); go_simp; done) | (intro w hSw; (try dsimp only at hSw); go_simp; with_reducible rfl)
    simp only [Act.put, List.setIfInBounds_toArray, List.set_cons_zero, List.set_cons_succ]
    refine wpAnyH_take (i := 4) (oi := { dst := some 30, op := Op.load 79 (Operand.tmp 29), type := 79, pos := "node.go:56", after := #[{ on := 3, ground := Ground.data }], guard := none }) (v := ?_) rfl (by kernel_rfl) (by kernel_rfl) (by kernel_rfl) (fun _ _ _ h => h) (Or.inl ⟨by rfl, ?_⟩) (by assumption) ?_
    rotate_left
    · first | (intro w hSw; (try dsimp only at hSw); go_simp; done) | (intro w hSw; (try dsimp only at hSw); go_simp; with_reducible rfl)
    simp only [Act.put, List.setIfInBounds_toArray, List.set_cons_zero, List.set_cons_succ]
    refine wpAnyH_take (i := 6) (oi := { dst := some 32, op := Op.move (Operand.tmp 5), type := 79, pos := "node.go:56", after := #[], guard := none }) (v := ?_) rfl (by kernel_rfl) (by kernel_rfl) (by kernel_rfl) (fun _ _ _ h => h) (Or.inl ⟨by rfl, ?_⟩) (by assumption) ?_
    rotate_left
    · first | (intro w hSw; (try dsimp only at hSw); go_simp; done) | (intro w hSw; (try dsimp only at hSw); go_simp; with_reducible rfl)
    simp only [Act.put, List.setIfInBounds_toArray, List.set_cons_zero, List.set_cons_succ]
    refine wpAnyH_take (i := 7) (oi := { dst := some 33, op := Op.nilCheck (Operand.tmp 32), type := 0, pos := "node.go:56", after := #[{ on := 6, ground := Ground.data }], guard := none }) (v := ?_) rfl (by kernel_rfl) (by kernel_rfl) (by kernel_rfl) (fun _ _ _ h => h) (Or.inl ⟨by rfl, ?_⟩) (by assumption) ?_
    rotate_left
    · first | (intro w hSw; (try dsimp only at hSw); go_simp; done) | (intro w hSw; (try dsimp only at hSw); go_simp; with_reducible rfl)
    simp only [Act.put, List.setIfInBounds_toArray, List.set_cons_zero, List.set_cons_succ]
    refine wpAnyH_take (i := 8) (oi := { dst := some 34, op := Op.fieldAddr 82 (Operand.tmp 33) 3, type := 0, pos := "node.go:56", after := #[{ on := 7, ground := Ground.data }], guard := none }) (v := ?_) rfl (by kernel_rfl) (by kernel_rfl) (by kernel_rfl) (fun _ _ _ h => h) (Or.inl ⟨by rfl, ?_⟩) (by assumption) ?_
    rotate_left
    · first | (intro w hSw; (try dsimp only at hSw); go_simp; done) | (intro w hSw; (try dsimp only at hSw); go_simp; with_reducible rfl)
    simp only [Act.put, List.setIfInBounds_toArray, List.set_cons_zero, List.set_cons_succ]
    refine wpAnyH_take (i := 9) (oi := { dst := some 35, op := Op.load 79 (Operand.tmp 34), type := 79, pos := "node.go:56", after := #[{ on := 8, ground := Ground.data }], guard := none }) (v := ?_) rfl (by kernel_rfl) (by kernel_rfl) (by kernel_rfl) (fun _ _ _ h => h) (Or.inl ⟨by rfl, ?_⟩) (by assumption) ?_
    rotate_left
    · first | (intro w hSw; (try dsimp only at hSw); go_simp; done) | (intro w hSw; (try dsimp only at hSw); go_simp; with_reducible rfl)
    simp only [Act.put, List.setIfInBounds_toArray, List.set_cons_zero, List.set_cons_succ]
    refine wpAnyH_take (i := 10) (oi := { dst := some 36, op := Op.move (Operand.tmp 6), type := 79, pos := "node.go:56", after := #[], guard := none }) (v := ?_) rfl (by kernel_rfl) (by kernel_rfl) (by kernel_rfl) (fun _ _ _ h => h) (Or.inl ⟨by rfl, ?_⟩) (by assumption) ?_
    rotate_left
    · first | (intro w hSw; (try dsimp only at hSw); go_simp; done) | (intro w hSw; (try dsimp only at hSw); go_simp; with_reducible rfl)
    simp only [Act.put, List.setIfInBounds_toArray, List.set_cons_zero, List.set_cons_succ]
    clear hS0 hHeld c100 c101 ca cm hq
    generalize wq.drew = w1 at *
    have hs1 := hbq.size
    have HC1 := Lib.hid (above_any r p br xp w1 (HR.out.on hbq) (HP.out.on hbq) (by omega) (Sh.tab_below HT.out hbq hw.1) (hw.on hbq))
    rw [ptr_some, ptr_some] at HC1
    refine wpAnyH_ready (rs := [5]) (by kernel_rfl) (by simp) ?_
    refine AllReadyH.cons rfl (fun K hK => ?_) AllReadyH.nil
    go_simp
    refine HC1.out.mono ?_
    rintro e w2 ⟨b1, rfl, hN1, hb2⟩
    rw [ptr_some]
    replace hb2 := hbq.trans (hb2.mono hbq.size)
    have hs2 := hb2.size
    have HN1 := Lib.hid hN1
    refine hK.out _ _ (HM.out.sides hb2) (fun _ => ?_)
    clear hK K hN1 HC1 hbq hs1
    have HC2 := Lib.hid (above_any q a yp x w2 (HQ.out.on hb2) (HX.out.on hb2) (by omega) (Sh.tab_below HT.out hb2 hw.1) (hw.on hb2))
    rw [ptr_some, ptr_some] at HC2
    refine wpAnyH_ready (rs := [11]) (by kernel_rfl) (by simp) ?_
    refine AllReadyH.cons rfl (fun K hK => ?_) AllReadyH.nil
    go_simp
    refine HC2.out.mono ?_
    rintro e w3 ⟨b2, rfl, hN2, hb3⟩
    rw [ptr_some]
    have HN13 := Lib.hid (HN1.out.on hb3)
    replace hb3 := hb2.trans (hb3.mono hb2.size)
    have hs3 := hb3.size
    have HN2 := Lib.hid hN2
    refine hK.out _ _ (HM.out.sides hb3) (fun _ => ?_)
    clear hK K hN2 HC2 hb2 hs2 HN1
    have HC3 := Lib.hid (above_any (.node r p) (.node q a) b1 b2 w3 HN13.out HN2.out (by show (r.n + p.n) + (q.n + a.n) ≤ _; omega) (Sh.tab_below HT.out hb3 hw.1) (hw.on hb3))
    rw [ptr_some, ptr_some] at HC3
    refine wpAnyH_ready (rs := [12]) (by kernel_rfl) (by simp) ?_
    refine AllReadyH.cons rfl (fun K hK => ?_) AllReadyH.nil
    go_simp
    refine HC3.out.mono ?_
    rintro e w4 ⟨b3, rfl, hN3, hb4⟩
    rw [ptr_some]
    replace hb4 := hb3.trans (hb4.mono hb3.size)
    have HN3 := Lib.hid hN3
    have HB4 := Lib.hid hb4
    have hHeld := HM.out.sides hb4
    refine hK.out _ _ hHeld (fun _ => ?_)
    clear hK K hN3 HC3 hb3 hs3 HN13 HN2 hb4
    refine wpAnyH_take (i := 13) (oi := { dst := some 4, op := Op.assign (Operand.tmp 38), type := 79, pos := "node.go:56", after := #[{ on := 12, ground := Ground.data }, { on := 12, ground := Ground.chain }, { on := 0, ground := Ground.phase }, { on := 1, ground := Ground.phase }, { on := 2, ground := Ground.phase }, { on := 3, ground := Ground.phase }, { on := 4, ground := Ground.phase }, { on := 5, ground := Ground.phase }, { on := 6, ground := Ground.phase }, { on := 7, ground := Ground.phase }, { on := 8, ground := Ground.phase }, { on := 9, ground := Ground.phase }, { on := 10, ground := Ground.phase }, { on := 11, ground := Ground.phase }, { on := 12, ground := Ground.phase }], guard := none }) (v := ?_) rfl (by kernel_rfl) (by kernel_rfl) (by kernel_rfl) (fun _ _ _ h => h) (Or.inl ⟨by rfl, ?_⟩) (by assumption) ?_
    rotate_left
    · first | (intro w hSw; (try dsimp only at hSw); go_simp; done) | (intro w hSw; (try dsimp only at hSw); go_simp; with_reducible rfl)
    simp only [Act.put, List.setIfInBounds_toArray, List.set_cons_zero, List.set_cons_succ]
    refine wpAnyH_done (by kernel_rfl) ?_ _
    clear hHeld
    go_wp2_with fail
    go_ret
    exact ⟨b3, rfl, HN3.out, HB4.out⟩
  · have hq : decide (a.h < m.h) = false := by simpa using hlt
    have HG : Hid (leanR r m a = .node (.node r m) a) := Lib.hid (by unfold leanR; rw [if_neg hlt])
    rw [HG.out]
    clear HG hlt
    generalize m.h = mh at *
    generalize a.h = ah at *
    go_enter Tryd.func85, Tryd.ntmps85
    go_wp2_with fail
    go_quiet (fail)
    rename Nat => nq1
    go_wp2_with fail
    go_quiet (fail)
    rename Nat => nq2
    have hbq : Below w.heap.size w ((w.drewN nq1).drewN nq2) := below_drewN (below_drewN (Below.refl _ _) _) _
    go_upto_region 4 with (fail)
    generalize (w.drewN nq1).drewN nq2 = w1 at *
    clear c100 c101 ca cm hq
    have hs1 := hbq.size
    have HC1 := Lib.hid (above_any r m br y w1 (HR.out.on hbq) (HY.out.on hbq) (by omega) (Sh.tab_below HT.out hbq hw.1) (hw.on hbq))
    rw [ptr_some, ptr_some] at HC1
    go_wp2_with fail
    refine HC1.out.mono ?_
    rintro e w2 ⟨b1, rfl, hN1, hb2⟩
    rw [ptr_some]
    replace hb2 := hbq.trans (hb2.mono hbq.size)
    have hs2 := hb2.size
    have HC2 := Lib.hid (above_any (.node r m) a b1 x w2 hN1 (HX.out.on hb2) (by show (r.n + m.n) + a.n ≤ _; omega) (Sh.tab_below HT.out hb2 hw.1) (hw.on hb2))
    rw [ptr_some, ptr_some] at HC2
    have HB2 := Lib.hid hb2
    clear hN1 HC1 hbq hs1 hb2 hs2
    go_wp2_with fail
    refine HC2.out.mono ?_
    rintro e w3 ⟨b2, rfl, hN2, hb3⟩
    rw [ptr_some]
    have HN2 := Lib.hid hN2
    have HB3 := Lib.hid (HB2.out.trans (hb3.mono HB2.out.size))
    clear hN2 hb3 HC2 HB2
    go_wp2_with fail
    go_ret
    exact ⟨b2, rfl, HN2.out, HB3.out⟩
end Go.Proofs.YtolkpjbbfopmnaaDoor
namespace Go.Proofs.YtolkpjbbfopmnaaDoor
open Go.RowKit
open Tr
variable {G : Nat → Prop}

set_option maxRecDepth 100000 in
set_option maxHeartbeats 1000000 in
theorem bal_any (l r : T) (bl br : Nat) (w : World) (hl : NIn G w w.heap.size l bl) (hr : NIn G w w.heap.size r br) (hn : l.n + r.n ≤ 4294967296) (ht : Sh.Tab w 1) (hw : Room G w) :
    Calls Tryd.prog 64 #[ptr (some bl), ptr (some br)] w (NodePost G (bal l r) w) := by
  have cl := hl.high (Below.refl _ _)
  have cr := hr.high (Below.refl _ _)
  have HL := Lib.hid hl
  have HR := Lib.hid hr
  have HT := Lib.hid ht
  have h1 := T.h_lt l
  have h2 := T.h_lt r
  have i1 : IntKind.i64.wrap ((l.h : Int) + 1) = (l.h : Int) + 1 := IntWalk.i64_in _ (by omega)
  have i2 : IntKind.i64.wrap ((r.h : Int) + 1) = (r.h : Int) + 1 := IntWalk.i64_in _ (by omega)
  clear hl hr ht h1 h2
  rw [ptr_some, ptr_some]
  by_cases ha : r.h + 1 < l.h
  · obtain ⟨a, m, rfl⟩ : ∃ a m, l = .node a m := T.node_of_h (by omega)
    have HG : Hid (bal (.node a m) r = leanL a m r) := Lib.hid (by unfold bal; rw [if_pos ha])
    rw [HG.out]
    have q1 : decide ((r.h : Int) + 1 < ((T.node a m).h : Int)) = true := by simp; omega
    have e0 : (T.node a m).n = a.n + m.n := rfl
    clear ha HG
    generalize (T.node a m).h = ah at *
    generalize r.h = rh at *
    go_enter Tryd.func64, Tryd.ntmps64
    go_wp2_with fail
    go_quiet (fail)
    rename Nat => nq1
    have hbq : Below w.heap.size w (w.drewN nq1) := below_drewN (Below.refl _ _) _
    go_upto_region 2 with (fail)
    generalize w.drewN nq1 = w1 at *
    clear cl cr i1 i2 q1
    have HC1 := Lib.hid (leanL_any a m r bl br w1 (HL.out.on hbq) (HR.out.on hbq) (by omega) (Sh.tab_below HT.out hbq hw.1) (hw.on hbq))
    rw [ptr_some, ptr_some] at HC1
    have HBQ := Lib.hid hbq
    clear hbq
    go_wp2_with fail
    refine HC1.out.mono ?_
    rintro e w2 ⟨b1, rfl, hN1, hb2⟩
    rw [ptr_some]
    have HN1 := Lib.hid hN1
    have HB2 := Lib.hid (HBQ.out.trans (hb2.mono HBQ.out.size))
    clear hN1 hb2 HC1 HBQ
    go_wp2_with fail
    go_ret
    exact ⟨b1, rfl, HN1.out, HB2.out⟩
  · have q1 : decide ((r.h : Int) + 1 < (l.h : Int)) = false := by simp; omega
    by_cases hb : l.h + 1 < r.h
    · obtain ⟨m, d, rfl⟩ : ∃ m d, r = .node m d := T.node_of_h (by omega)
      have HG : Hid (bal l (.node m d) = leanR l m d) := Lib.hid (by unfold bal; rw [if_neg ha, if_pos hb])
      rw [HG.out]
      have q2 : decide ((l.h : Int) + 1 < ((T.node m d).h : Int)) = true := by simp; omega
      have e0 : (T.node m d).n = m.n + d.n := rfl
      clear ha hb HG
      generalize (T.node m d).h = rh at *
      generalize l.h = lh at *
      go_enter Tryd.func64, Tryd.ntmps64
      go_wp2_with fail
      go_quiet (fail)
      rename Nat => nq1
      go_wp2_with fail
      go_quiet (fail)
      rename Nat => nq2
      have hbq : Below w.heap.size w ((w.drewN nq1).drewN nq2) := below_drewN (below_drewN (Below.refl _ _) _) _
      go_upto_region 4 with (fail)
      generalize (w.drewN nq1).drewN nq2 = w1 at *
      clear cl cr i1 i2 q1 q2
      have HC1 := Lib.hid (leanR_any l m d bl br w1 (HL.out.on hbq) (HR.out.on hbq) (by omega) (Sh.tab_below HT.out hbq hw.1) (hw.on hbq))
      rw [ptr_some, ptr_some] at HC1
      have HBQ := Lib.hid hbq
      clear hbq
      go_wp2_with fail
      refine HC1.out.mono ?_
      rintro e w2 ⟨b1, rfl, hN1, hb2⟩
      rw [ptr_some]
      have HN1 := Lib.hid hN1
      have HB2 := Lib.hid (HBQ.out.trans (hb2.mono HBQ.out.size))
      clear hN1 hb2 HC1 HBQ
      go_wp2_with fail
      go_ret
      exact ⟨b1, rfl, HN1.out, HB2.out⟩
    · have q2 : decide ((l.h : Int) + 1 < (r.h : Int)) = false := by simp; omega
      have HG : Hid (bal l r = .node l r) := Lib.hid (by unfold bal; rw [if_neg ha, if_neg hb])
      rw [HG.out]
      clear ha hb HG
      generalize l.h = lh at *
      generalize r.h = rh at *
      go_enter Tryd.func64, Tryd.ntmps64
      go_wp2_with fail
      go_quiet (fail)
      rename Nat => nq1
      go_wp2_with fail
      go_quiet (fail)
      rename Nat => nq2
      have hbq : Below w.heap.size w ((w.drewN nq1).drewN nq2) := below_drewN (below_drewN (Below.refl _ _) _) _
      go_upto_region 5 with (fail)
      generalize (w.drewN nq1).drewN nq2 = w1 at *
      clear cl cr i1 i2 q1 q2
      have HC1 := Lib.hid (above_any l r bl br w1 (HL.out.on hbq) (HR.out.on hbq) (by omega) (Sh.tab_below HT.out hbq hw.1) (hw.on hbq))
      rw [ptr_some, ptr_some] at HC1
      have HBQ := Lib.hid hbq
      clear hbq
      go_wp2_with fail
      refine HC1.out.mono ?_
      rintro e w2 ⟨b1, rfl, hN1, hb2⟩
      rw [ptr_some]
      have HN1 := Lib.hid hN1
      have HB2 := Lib.hid (HBQ.out.trans (hb2.mono HBQ.out.size))
      clear hN1 hb2 HC1 HBQ
      go_wp2_with fail
      go_ret
      exact ⟨b1, rfl, HN1.out, HB2.out⟩
end Go.Proofs.YtolkpjbbfopmnaaDoor
namespace Go.Proofs.YtolkpjbbfopmnaaDoor
open Go.RowKit
open Tr
variable {G : Nat → Prop}

theorem put_n (k v : List UInt8) : ∀ t : T, (t.put k v).n ≤ t.n + 1
  | .leaf k' v' => by
    show (beside (.leaf k' v') k v).n ≤ 2
    unfold beside
    split
    · exact Nat.le_refl _
    · split
      · exact Nat.le_refl _
      · show 1 ≤ 2; omega
  | .node l r => by
    have h1 := put_n k v l
    have h2 := put_n k v r
    show (if lt k r.least then bal (l.put k v) r else bal l (r.put k v)).n ≤ l.n + r.n + 1
    split
    · rw [bal_n]; omega
    · rw [bal_n]; omega

theorem NIn.keyAt {w w' : World} {B b : Nat} {t : T} (h : NIn G w B t b) (hb : Below B w w') : ∃ A n c, w'.cell? ⟨b, 0, none⟩ = some (.slice A n c) ∧ Rd w' B A n t.key := by
  obtain ⟨A, n, c, A', n', c', x, y, hh⟩ := (h.below hb (Nat.le_refl _)).has
  exact ⟨A, n, c, hh.cells.1, hh.key⟩

set_option maxRecDepth 100000 in
set_option maxHeartbeats 1000000 in
theorem beside_any (k' v' k v : List UInt8) (b bl : Nat) (w : World) (hl : NIn G w w.heap.size (.leaf k' v') b) (hr : NIn G w w.heap.size (.leaf k v) bl) (ht : Sh.Tab w 1) (hw : Room G w) :
    Calls Tryd.prog 62 #[ptr (some b), ptr (some bl)] w (NodePost G (beside (.leaf k' v') k v) w) := by
  obtain ⟨A, n, c, c0, hk⟩ := hl.keyAt (Below.refl _ _).drew
  obtain ⟨A', n', c', c0', hk'⟩ := hr.keyAt (Below.refl _ _).drew
  change w.cell? _ = _ at c0 c0'
  have HL := Lib.hid hl
  have HR := Lib.hid hr
  have HT := Lib.hid ht
  have HK := Lib.hid (compare_any A' A n' c' n c _ _ k k' w.drew hk' hk)
  have HU : Hid (beside (.leaf k' v') k v = if lt k k' then .node (.leaf k v) (.leaf k' v') else if lt k' k then .node (.leaf k' v') (.leaf k v) else .leaf k v) := Lib.hid rfl
  clear hl hr ht hk hk'
  rw [ptr_some, ptr_some]
  obtain ⟨C, hC⟩ : ∃ C, Lib.compareBytes k k' = C := ⟨_, rfl⟩
  rw [hC] at HK
  have HC := Lib.hid hC
  clear hC
  have hb1 : Below w.heap.size w w.drew := (Below.refl _ _).drew
  go_enter Tryd.func62, Tryd.ntmps62
  go_upto_region 1 with (fail)
  have hS0 : w.drew.cell? ⟨b, 0, none⟩ = some (.slice A n c) ∧ w.drew.cell? ⟨bl, 0, none⟩ = some (.slice A' n' c') := ⟨c0, c0'⟩
  refine wp_region_held_drew (S := fun w' => w'.cell? ⟨b, 0, none⟩ = some (.slice A n c) ∧ w'.cell? ⟨bl, 0, none⟩ = some (.slice A' n' c')) (by kernel_rfl) hS0 (fun hHeld => ?_)
  refine wpAnyH_take (i := 0) (oi := { dst := some 6, op := Op.move (Operand.tmp 1), type := 79, pos := "node.go:74", after := #[], guard := none }) (v := ?_) rfl (by kernel_rfl) (by kernel_rfl) (by kernel_rfl) (fun _ _ _ h => h) (Or.inl ⟨by rfl, ?_⟩) (by assumption) ?_
  rotate_left
  · first | (intro w hSw; (try dsimp only at hSw); go_simp; done) | (intro w hSw; (try dsimp only at hSw); go_simp; with_reducible rfl)
  simp only [Act.put, List.setIfInBounds_toArray, List.set_cons_zero, List.set_cons_succ]
  refine wpAnyH_take (i := 1) (oi := { dst := some 7, op := Op.nilCheck (Operand.tmp 6), type := 0, pos := "node.go:74", after := #[{ on := 0, ground := Ground.data }], guard := none }) (v := ?_) rfl (by kernel_rfl) (by kernel_rfl) (by kernel_rfl) (fun _ _ _ h => h) (Or.inl ⟨by rfl, ?_⟩) (by assumption) ?_
  rotate_left
  · first | (intro w hSw; (try dsimp only at hSw); go_simp; done) | (intro w hSw; (try dsimp only at hSw); go_simp; with_reducible rfl)
  simp only [Act.put, List.setIfInBounds_toArray, List.set_cons_zero, List.set_cons_succ]
  refine wpAnyH_take (i := 2) (oi := { dst := some 8, op := Op.fieldAddr 82 (Operand.tmp 7) 0, type := 0, pos := "node.go:74", after := #[{ on := 1, ground := Ground.data }], guard := none }) (v := ?_) rfl (by kernel_rfl) (by kernel_rfl) (by kernel_rfl) (fun _ _ _ h => h) (Or.inl ⟨by rfl, ?_⟩) (by assumption) ?_
  rotate_left
  · first | (intro w hSw; (try dsimp only at hSw); go_simp; done) | (intro w hSw; (try dsimp only at hSw); go_simp; with_reducible rfl)
  simp only [Act.put, List.setIfInBounds_toArray, List.set_cons_zero, List.set_cons_succ]
  refine wpAnyH_take (i := 3) (oi := { dst := some 9, op := Op.fieldAddr 47 (Operand.tmp 8) 0, type := 0, pos := "node.go:74", after := #[{ on := 2, ground := Ground.data }], guard := none }) (v := ?_) rfl (by kernel_rfl) (by kernel_rfl) (by kernel_rfl) (fun _ _ _ h => h) (Or.inl ⟨by rfl, ?_⟩) (by assumption) ?_
  rotate_left
  · first | (intro w hSw; (try dsimp only at hSw); go_simp; done) | (intro w hSw; (try dsimp only at hSw); go_simp; with_reducible rfl)
  simp only [Act.put, List.setIfInBounds_toArray, List.set_cons_zero, List.set_cons_succ]
  refine wpAnyH_take (i := 4) (oi := { dst := some 10, op := Op.load 31 (Operand.tmp 9), type := 31, pos := "node.go:74", after := #[{ on := 3, ground := Ground.data }], guard := none }) (v := ?_) rfl (by kernel_rfl) (by kernel_rfl) (by kernel_rfl) (fun _ _ _ h => h) (Or.inl ⟨by rfl, ?_⟩) (by assumption) ?_
  rotate_left
  · first | (intro w hSw; (try dsimp only at hSw); go_simp; done) | (intro w hSw; (try dsimp only at hSw); go_simp; with_reducible rfl)
  simp only [Act.put, List.setIfInBounds_toArray, List.set_cons_zero, List.set_cons_succ]
  refine wpAnyH_take (i := 5) (oi := { dst := some 11, op := Op.move (Operand.tmp 0), type := 79, pos := "node.go:74", after := #[], guard := none }) (v := ?_) rfl (by kernel_rfl) (by kernel_rfl) (by kernel_rfl) (fun _ _ _ h => h) (Or.inl ⟨by rfl, ?_⟩) (by assumption) ?_
  rotate_left
  · first | (intro w hSw; (try dsimp only at hSw); go_simp; done) | (intro w hSw; (try dsimp only at hSw); go_simp; with_reducible rfl)
  simp only [Act.put, List.setIfInBounds_toArray, List.set_cons_zero, List.set_cons_succ]
  refine wpAnyH_take (i := 6) (oi := { dst := some 12, op := Op.nilCheck (Operand.tmp 11), type := 0, pos := "node.go:74", after := #[{ on := 5, ground := Ground.data }], guard := none }) (v := ?_) rfl (by kernel_rfl) (by kernel_rfl) (by kernel_rfl) (fun _ _ _ h => h) (Or.inl ⟨by rfl, ?_⟩) (by assumption) ?_
  rotate_left
  · first | (intro w hSw; (try dsimp only at hSw); go_simp; done) | (intro w hSw; (try dsimp only at hSw); go_simp; with_reducible rfl)
  simp only [Act.put, List.setIfInBounds_toArray, List.set_cons_zero, List.set_cons_succ]
  refine wpAnyH_take (i := 7) (oi := { dst := some 13, op := Op.fieldAddr 82 (Operand.tmp 12) 0, type := 0, pos := "node.go:74", after := #[{ on := 6, ground := Ground.data }], guard := none }) (v := ?_) rfl (by kernel_rfl) (by kernel_rfl) (by kernel_rfl) (fun _ _ _ h => h) (Or.inl ⟨by rfl, ?_⟩) (by assumption) ?_
  rotate_left
  · first | (intro w hSw; (try dsimp only at hSw); go_simp; done) | (intro w hSw; (try dsimp only at hSw); go_simp; with_reducible rfl)
  simp only [Act.put, List.setIfInBounds_toArray, List.set_cons_zero, List.set_cons_succ]
  refine wpAnyH_take (i := 8) (oi := { dst := some 14, op := Op.fieldAddr 47 (Operand.tmp 13) 0, type := 0, pos := "node.go:74", after := #[{ on := 7, ground := Ground.data }], guard := none }) (v := ?_) rfl (by kernel_rfl) (by kernel_rfl) (by kernel_rfl) (fun _ _ _ h => h) (Or.inl ⟨by rfl, ?_⟩) (by assumption) ?_
  rotate_left
  · first | (intro w hSw; (try dsimp only at hSw); go_simp; done) | (intro w hSw; (try dsimp only at hSw); go_simp; with_reducible rfl)
  simp only [Act.put, List.setIfInBounds_toArray, List.set_cons_zero, List.set_cons_succ]
  refine wpAnyH_take (i := 9) (oi := { dst := some 15, op := Op.load 31 (Operand.tmp 14), type := 31, pos := "node.go:74", after := #[{ on := 8, ground := Ground.data }], guard := none }) (v := ?_) rfl (by kernel_rfl) (by kernel_rfl) (by kernel_rfl) (fun _ _ _ h => h) (Or.inl ⟨by rfl, ?_⟩) (by assumption) ?_
  rotate_left
  · first | (intro w hSw; (try dsimp only at hSw); go_simp; done) | (intro w hSw; (try dsimp only at hSw); go_simp; with_reducible rfl)
  simp only [Act.put, List.setIfInBounds_toArray, List.set_cons_zero, List.set_cons_succ]
  generalize w.drew = w1 at *
  clear c0 c0'
  refine wpAnyH_ready (rs := [10]) (by kernel_rfl) (by simp) ?_
  refine AllReadyH.cons rfl (fun K hK => ?_) AllReadyH.nil
  go_simp
  refine HK.out.mono ?_
  rintro e w2 ⟨rfl, rfl⟩
  refine hK.out _ _ hS0 (fun _ => ?_)
  clear hK K HK
  refine wpAnyH_take (i := 11) (oi := { dst := some 5, op := Op.assign (Operand.tmp 16), type := 3, pos := "node.go:74", after := #[{ on := 10, ground := Ground.data }, { on := 10, ground := Ground.chain }, { on := 0, ground := Ground.phase }, { on := 1, ground := Ground.phase }, { on := 2, ground := Ground.phase }, { on := 3, ground := Ground.phase }, { on := 4, ground := Ground.phase }, { on := 5, ground := Ground.phase }, { on := 6, ground := Ground.phase }, { on := 7, ground := Ground.phase }, { on := 8, ground := Ground.phase }, { on := 9, ground := Ground.phase }, { on := 10, ground := Ground.phase }], guard := none }) (v := ?_) rfl (by kernel_rfl) (by kernel_rfl) (by kernel_rfl) (fun _ _ _ h => h) (Or.inl ⟨by rfl, ?_⟩) (by assumption) ?_
  rotate_left
  · first | (intro w hSw; (try dsimp only at hSw); go_simp; done) | (intro w hSw; (try dsimp only at hSw); go_simp; with_reducible rfl)
  simp only [Act.put, List.setIfInBounds_toArray, List.set_cons_zero, List.set_cons_succ]
  refine wpAnyH_done (by kernel_rfl) ?_ _
  clear hS0 hHeld
  by_cases h1 : lt k k' = true
  · have hc : C = -1 := by rw [← HC.out]; exact cmp_lt _ _ h1
    subst hc
    have HG : Hid (beside (.leaf k' v') k v = .node (.leaf k v) (.leaf k' v')) := Lib.hid (by rw [HU.out, if_pos h1])
    clear HC h1 HU
    have HC1 := Lib.hid (above_any (.leaf k v) (.leaf k' v') bl b w1 (HR.out.on hb1) (HL.out.on hb1) (by show 1 + 1 ≤ _; omega) (Sh.tab_below HT.out hb1 hw.1) (hw.on hb1))
    rw [ptr_some, ptr_some] at HC1
    have HB1 := Lib.hid hb1
    clear hb1
    go_wp2_with fail
    refine HC1.out.mono ?_
    rintro e w2 ⟨b1, rfl, hN1, hb2⟩
    rw [ptr_some]
    have HN1 := Lib.hid hN1
    have HB2 := Lib.hid (HB1.out.trans (hb2.mono HB1.out.size))
    clear hN1 hb2 HC1 HB1
    go_wp2_with fail
    go_ret
    exact ⟨b1, rfl, by rw [HG.out]; exact HN1.out, HB2.out⟩
  · by_cases h2 : lt k' k = true
    · have hc : C = 1 := by rw [← HC.out]; exact cmp_gt _ _ h2
      subst hc
      have HG : Hid (beside (.leaf k' v') k v = .node (.leaf k' v') (.leaf k v)) := Lib.hid (by rw [HU.out, if_neg h1, if_pos h2])
      clear HC h1 h2 HU
      have HC1 := Lib.hid (above_any (.leaf k' v') (.leaf k v) b bl w1 (HL.out.on hb1) (HR.out.on hb1) (by show 1 + 1 ≤ _; omega) (Sh.tab_below HT.out hb1 hw.1) (hw.on hb1))
      rw [ptr_some, ptr_some] at HC1
      have HB1 := Lib.hid hb1
      clear hb1
      go_wp2_with fail
      refine HC1.out.mono ?_
      rintro e w2 ⟨b1, rfl, hN1, hb2⟩
      rw [ptr_some]
      have HN1 := Lib.hid hN1
      have HB2 := Lib.hid (HB1.out.trans (hb2.mono HB1.out.size))
      clear hN1 hb2 HC1 HB1
      go_wp2_with fail
      go_ret
      exact ⟨b1, rfl, by rw [HG.out]; exact HN1.out, HB2.out⟩
    · have hc : C = 0 := by
        rw [← HC.out, lt_tri k k' (by simpa using h1) (by simpa using h2)]
        exact cmp_self _
      subst hc
      have HG : Hid (beside (.leaf k' v') k v = .leaf k v) := Lib.hid (by rw [HU.out, if_neg h1, if_neg h2])
      clear HC h1 h2 HU
      have HB1 := Lib.hid hb1
      clear hb1
      go_wp2_with fail
      go_ret
      exact ⟨bl, rfl, by rw [HG.out]; exact HR.out.on HB1.out, HB1.out⟩

set_option maxRecDepth 100000 in
set_option maxHeartbeats 1000000 in
theorem with_any (k v : List UInt8) (bl : Nat) : ∀ (t : T) (b : Nat) (w : World) (_ : NIn G w w.heap.size t b) (_ : NIn G w w.heap.size (.leaf k v) bl) (_ : t.n + 1 ≤ 4294967296) (_ : Sh.Tab w 1) (_ : Room G w),
    Calls Tryd.prog 38 #[ptr (some b), ptr (some bl)] w (NodePost G (t.put k v) w)
  | .leaf k' v', b, w, hl, hr, _, ht, hw => by
    have HC1 := Lib.hid (beside_any k' v' k v b bl w hl hr ht hw)
    obtain ⟨A, n, c, A', n', c', hh⟩ := hl
    have HI := Lib.hid (isLeaf_yes hh rfl)
    clear hh hr ht
    rw [ptr_some] at HI
    rw [ptr_some, ptr_some] at HC1 ⊢
    go_enter Tryd.func38, Tryd.ntmps38
    go_wp2_with fail
    refine HI.out.mono ?_
    rintro e w1 ⟨rfl, rfl⟩
    go_wp2_with fail
    refine HC1.out.mono ?_
    rintro e w2 ⟨b1, rfl, hN1, hb2⟩
    rw [ptr_some]
    have HN1 := Lib.hid hN1
    have HB2 := Lib.hid hb2
    clear hN1 hb2 HC1
    go_wp2_with fail
    go_ret
    exact ⟨b1, rfl, HN1.out, HB2.out⟩
  | .node l r, b, w, hl, hr, hn, ht, hw => by
    obtain ⟨A, n, c, A', n', c', x, y, hh, hx, hy⟩ := hl
    obtain ⟨Ak, nk, ck, c0, hk⟩ := hr.keyAt (Below.refl _ _)
    have HI := Lib.hid (isLeaf_no hh (h_ne l r))
    have HRT := Lib.hid (fun R => isRight_any hh Ak nk ck w.heap.size k hk R)
    rw [ptr_some] at HI HRT
    have e0 : (T.node l r).n = l.n + r.n := rfl
    have HH := Lib.hid hh
    have HX := Lib.hid hx
    have HY := Lib.hid hy
    have HK := Lib.hid hr
    have HT := Lib.hid ht
    have p1 := T.n_pos l
    have p2 := T.n_pos r
    clear hh hx hy hr hk ht
    have HU : Hid ((T.node l r).put k v = if lt k r.least then bal (l.put k v) r else bal l (r.put k v)) := Lib.hid rfl
    rw [ptr_some, ptr_some]
    by_cases hlt : lt k r.least = true
    · rw [HU.out, if_pos hlt]
      have HR := Lib.hid (HRT.out false (by rw [show (T.node l r).key = r.least from rfl, hlt]; rfl))
      clear HRT HU hlt
      go_enter Tryd.func38, Tryd.ntmps38
      go_wp2_with fail
      refine HI.out.mono ?_
      rintro e w1 ⟨rfl, rfl⟩
      go_wp2_with fail
      refine HR.out.mono ?_
      rintro e w1 ⟨rfl, rfl⟩
      go_upto_region 5 with (fail)
      have hb1 : Below w.heap.size w w.drew := (Below.refl _ _).drew
      have hS0 : w.drew.cell? ⟨b, 100, none⟩ = some (.pointer (some ⟨x, 0, none⟩)) ∧ w.drew.cell? ⟨b, 101, none⟩ = some (.pointer (some ⟨y, 0, none⟩)) := HH.out.sides hb1
      refine wp_region_held_drew (S := fun w' => w'.cell? ⟨b, 100, none⟩ = some (.pointer (some ⟨x, 0, none⟩)) ∧ w'.cell? ⟨b, 101, none⟩ = some (.pointer (some ⟨y, 0, none⟩))) (by kernel_rfl) hS0 (fun hHeld => ?_)
      clear c0
      refine wpAnyH_take (i := 0) (oi := { dst := some 28, op := Op.move (Operand.tmp 0), type := 79, pos := "node.go:69", after := #[], guard := none }) (v := ?_) rfl (by kernel_rfl) (by kernel_rfl) (by kernel_rfl) (fun _ _ _ h => h) (Or.inl ⟨by rfl, ?_⟩) (by assumption) ?_
      rotate_left
      · first | (intro w hSw; (try dsimp only at hSw); go_simp; done) | (intro w hSw; (try dsimp only at hSw); go_simp; with_reducible rfl)
      simp only [Act.put, List.setIfInBounds_toArray, List.set_cons_zero, List.set_cons_succ]
      refine wpAnyH_take (i := 1) (oi := { dst := some 29, op := Op.nilCheck (Operand.tmp 28), type := 0, pos := "node.go:69", after := #[{ on := 0, ground := Ground.data }], guard := none }) (v := ?_) rfl (by kernel_rfl) (by kernel_rfl) (by kernel_rfl) (fun _ _ _ h => h) (Or.inl ⟨by rfl, ?_⟩) (by assumption) ?_
      rotate_left
      · first | (intro w hSw; (try dsimp only at hSw); go_simp; done) | (intro w hSw; (try dsimp only at hSw); go_simp; with_reducible rfl)
      simp only [Act.put, List.setIfInBounds_toArray, List.set_cons_zero, List.set_cons_succ]
      refine wpAnyH_take (i := 2) (oi := { dst := some 30, op := Op.fieldAddr 82 (Operand.tmp 29) 2, type := 0, pos := "node.go:69", after := #[{ on := 1, ground := Ground.data }], guard := none }) (v := ?_) rfl (by kernel_rfl) (by kernel_rfl) (by kernel_rfl) (fun _ _ _ h => h) (Or.inl ⟨by rfl, ?_⟩) (by assumption) ?_
      rotate_left
      · first | (intro w hSw; (try dsimp only at hSw); go_simp; done) | (intro w hSw; (try dsimp only at hSw); go_simp; with_reducible rfl)
      simp only [Act.put, List.setIfInBounds_toArray, List.set_cons_zero, List.set_cons_succ]
      refine wpAnyH_take (i := 3) (oi := { dst := some 31, op := Op.load 79 (Operand.tmp 30), type := 79, pos := "node.go:69", after := #[{ on := 2, ground := Ground.data }], guard := none }) (v := ?_) rfl (by kernel_rfl) (by kernel_rfl) (by kernel_rfl) (fun _ _ _ h => h) (Or.inl ⟨by rfl, ?_⟩) (by assumption) ?_
      rotate_left
      · first | (intro w hSw; (try dsimp only at hSw); go_simp; done) | (intro w hSw; (try dsimp only at hSw); go_simp; with_reducible rfl)
      simp only [Act.put, List.setIfInBounds_toArray, List.set_cons_zero, List.set_cons_succ]
      refine wpAnyH_take (i := 4) (oi := { dst := some 32, op := Op.move (Operand.tmp 1), type := 79, pos := "node.go:69", after := #[], guard := none }) (v := ?_) rfl (by kernel_rfl) (by kernel_rfl) (by kernel_rfl) (fun _ _ _ h => h) (Or.inl ⟨by rfl, ?_⟩) (by assumption) ?_
      rotate_left
      · first | (intro w hSw; (try dsimp only at hSw); go_simp; done) | (intro w hSw; (try dsimp only at hSw); go_simp; with_reducible rfl)
      simp only [Act.put, List.setIfInBounds_toArray, List.set_cons_zero, List.set_cons_succ]
      refine wpAnyH_take (i := 6) (oi := { dst := some 34, op := Op.move (Operand.tmp 0), type := 79, pos := "node.go:69", after := #[], guard := none }) (v := ?_) rfl (by kernel_rfl) (by kernel_rfl) (by kernel_rfl) (fun _ _ _ h => h) (Or.inl ⟨by rfl, ?_⟩) (by assumption) ?_
      rotate_left
      · first | (intro w hSw; (try dsimp only at hSw); go_simp; done) | (intro w hSw; (try dsimp only at hSw); go_simp; with_reducible rfl)
      simp only [Act.put, List.setIfInBounds_toArray, List.set_cons_zero, List.set_cons_succ]
      refine wpAnyH_take (i := 7) (oi := { dst := some 35, op := Op.nilCheck (Operand.tmp 34), type := 0, pos := "node.go:69", after := #[{ on := 6, ground := Ground.data }], guard := none }) (v := ?_) rfl (by kernel_rfl) (by kernel_rfl) (by kernel_rfl) (fun _ _ _ h => h) (Or.inl ⟨by rfl, ?_⟩) (by assumption) ?_
      rotate_left
      · first | (intro w hSw; (try dsimp only at hSw); go_simp; done) | (intro w hSw; (try dsimp only at hSw); go_simp; with_reducible rfl)
      simp only [Act.put, List.setIfInBounds_toArray, List.set_cons_zero, List.set_cons_succ]
      refine wpAnyH_take (i := 8) (oi := { dst := some 36, op := Op.fieldAddr 82 (Operand.tmp 35) 3, type := 0, pos := "node.go:69", after := #[{ on := 7, ground := Ground.data }], guard := none }) (v := ?_) rfl (by kernel_rfl) (by kernel_rfl) (by kernel_rfl) (fun _ _ _ h => h) (Or.inl ⟨by rfl, ?_⟩) (by assumption) ?_
      rotate_left
      · first | (intro w hSw; (try dsimp only at hSw); go_simp; done) | (intro w hSw; (try dsimp only at hSw); go_simp; with_reducible rfl)
      simp only [Act.put, List.setIfInBounds_toArray, List.set_cons_zero, List.set_cons_succ]
      refine wpAnyH_take (i := 9) (oi := { dst := some 37, op := Op.load 79 (Operand.tmp 36), type := 79, pos := "node.go:69", after := #[{ on := 8, ground := Ground.data }], guard := none }) (v := ?_) rfl (by kernel_rfl) (by kernel_rfl) (by kernel_rfl) (fun _ _ _ h => h) (Or.inl ⟨by rfl, ?_⟩) (by assumption) ?_
      rotate_left
      · first | (intro w hSw; (try dsimp only at hSw); go_simp; done) | (intro w hSw; (try dsimp only at hSw); go_simp; with_reducible rfl)
      simp only [Act.put, List.setIfInBounds_toArray, List.set_cons_zero, List.set_cons_succ]
      clear hS0 hHeld HR HI
      generalize w.drew = w1 at *
      have HC1 := Lib.hid (with_any k v bl l x w1 (HX.out.on hb1) (HK.out.on hb1) (by omega) (Sh.tab_below HT.out hb1 hw.1) (hw.on hb1))
      rw [ptr_some, ptr_some] at HC1
      refine wpAnyH_ready (rs := [5]) (by kernel_rfl) (by simp) ?_
      refine AllReadyH.cons rfl (fun K hK => ?_) AllReadyH.nil
      go_simp
      refine HC1.out.mono ?_
      rintro e w2 ⟨b1, rfl, hN1, hb2⟩
      rw [ptr_some]
      replace hb2 := hb1.trans (hb2.mono hb1.size)
      refine hK.out _ _ (HH.out.sides hb2) (fun _ => ?_)
      clear hK K HC1 hb1
      have HC2 := Lib.hid (bal_any (l.put k v) r b1 y w2 hN1 (HY.out.on hb2) (by have := put_n k v l; omega) (Sh.tab_below HT.out hb2 hw.1) (hw.on hb2))
      rw [ptr_some, ptr_some] at HC2
      clear hN1
      refine wpAnyH_ready (rs := [10]) (by kernel_rfl) (by simp) ?_
      refine AllReadyH.cons rfl (fun K hK => ?_) AllReadyH.nil
      go_simp
      refine HC2.out.mono ?_
      rintro e w3 ⟨b2, rfl, hN2, hb3⟩
      rw [ptr_some]
      replace hb3 := hb2.trans (hb3.mono hb2.size)
      have hHeld := HH.out.sides hb3
      refine hK.out _ _ hHeld (fun _ => ?_)
      clear hK K HC2 hb2
      have HN2 := Lib.hid hN2
      have HB3 := Lib.hid hb3
      clear hN2 hb3
      refine wpAnyH_take (i := 11) (oi := { dst := some 4, op := Op.assign (Operand.tmp 38), type := 79, pos := "node.go:69", after := #[{ on := 10, ground := Ground.data }, { on := 10, ground := Ground.chain }, { on := 0, ground := Ground.phase }, { on := 1, ground := Ground.phase }, { on := 2, ground := Ground.phase }, { on := 3, ground := Ground.phase }, { on := 4, ground := Ground.phase }, { on := 5, ground := Ground.phase }, { on := 6, ground := Ground.phase }, { on := 7, ground := Ground.phase }, { on := 8, ground := Ground.phase }, { on := 9, ground := Ground.phase }, { on := 10, ground := Ground.phase }], guard := none }) (v := ?_) rfl (by kernel_rfl) (by kernel_rfl) (by kernel_rfl) (fun _ _ _ h => h) (Or.inl ⟨by rfl, ?_⟩) (by assumption) ?_
      rotate_left
      · first | (intro w hSw; (try dsimp only at hSw); go_simp; done) | (intro w hSw; (try dsimp only at hSw); go_simp; with_reducible rfl)
      simp only [Act.put, List.setIfInBounds_toArray, List.set_cons_zero, List.set_cons_succ]
      refine wpAnyH_done (by kernel_rfl) ?_ _
      clear hHeld
      go_wp2_with fail
      go_ret
      exact ⟨b2, rfl, HN2.out, HB3.out⟩
    · rw [HU.out, if_neg hlt]
      have HR := Lib.hid (HRT.out true (by rw [show (T.node l r).key = r.least from rfl]; simpa using hlt))
      clear HRT HU hlt
      go_enter Tryd.func38, Tryd.ntmps38
      go_wp2_with fail
      refine HI.out.mono ?_
      rintro e w1 ⟨rfl, rfl⟩
      go_wp2_with fail
      refine HR.out.mono ?_
      rintro e w1 ⟨rfl, rfl⟩
      go_upto_region 4 with (fail)
      have hb1 : Below w.heap.size w w.drew := (Below.refl _ _).drew
      have hS0 : w.drew.cell? ⟨b, 100, none⟩ = some (.pointer (some ⟨x, 0, none⟩)) ∧ w.drew.cell? ⟨b, 101, none⟩ = some (.pointer (some ⟨y, 0, none⟩)) := HH.out.sides hb1
      refine wp_region_held_drew (S := fun w' => w'.cell? ⟨b, 100, none⟩ = some (.pointer (some ⟨x, 0, none⟩)) ∧ w'.cell? ⟨b, 101, none⟩ = some (.pointer (some ⟨y, 0, none⟩))) (by kernel_rfl) hS0 (fun hHeld => ?_)
      clear c0
      refine wpAnyH_take (i := 0) (oi := { dst := some 17, op := Op.move (Operand.tmp 0), type := 79, pos := "node.go:67", after := #[], guard := none }) (v := ?_) rfl (by kernel_rfl) (by kernel_rfl) (by kernel_rfl) (fun _ _ _ h => h) (Or.inl ⟨by rfl, ?_⟩) (by assumption) ?_
      rotate_left
      · first | (intro w hSw; (try dsimp only at hSw); go_simp; done) | (intro w hSw; (try dsimp only at hSw); go_simp; with_reducible rfl)
      simp only [Act.put, List.setIfInBounds_toArray, List.set_cons_zero, List.set_cons_succ]
      refine wpAnyH_take (i := 1) (oi := { dst := some 18, op := Op.nilCheck (Operand.tmp 17), type := 0, pos := "node.go:67", after := #[{ on := 0, ground := Ground.data }], guard := none }) (v := ?_) rfl (by kernel_rfl) (by kernel_rfl) (by kernel_rfl) (fun _ _ _ h => h) (Or.inl ⟨by rfl, ?_⟩) (by assumption) ?_
      rotate_left
      · first | (intro w hSw; (try dsimp only at hSw); go_simp; done) | (intro w hSw; (try dsimp only at hSw); go_simp; with_reducible rfl)
      simp only [Act.put, List.setIfInBounds_toArray, List.set_cons_zero, List.set_cons_succ]
      refine wpAnyH_take (i := 2) (oi := { dst := some 19, op := Op.fieldAddr 82 (Operand.tmp 18) 2, type := 0, pos := "node.go:67", after := #[{ on := 1, ground := Ground.data }], guard := none }) (v := ?_) rfl (by kernel_rfl) (by kernel_rfl) (by kernel_rfl) (fun _ _ _ h => h) (Or.inl ⟨by rfl, ?_⟩) (by assumption) ?_
      rotate_left
      · first | (intro w hSw; (try dsimp only at hSw); go_simp; done) | (intro w hSw; (try dsimp only at hSw); go_simp; with_reducible rfl)
      simp only [Act.put, List.setIfInBounds_toArray, List.set_cons_zero, List.set_cons_succ]
      refine wpAnyH_take (i := 3) (oi := { dst := some 20, op := Op.load 79 (Operand.tmp 19), type := 79, pos := "node.go:67", after := #[{ on := 2, ground := Ground.data }], guard := none }) (v := ?_) rfl (by kernel_rfl) (by kernel_rfl) (by kernel_rfl) (fun _ _ _ h => h) (Or.inl ⟨by rfl, ?_⟩) (by assumption) ?_
      rotate_left
      · first | (intro w hSw; (try dsimp only at hSw); go_simp; done) | (intro w hSw; (try dsimp only at hSw); go_simp; with_reducible rfl)
      simp only [Act.put, List.setIfInBounds_toArray, List.set_cons_zero, List.set_cons_succ]
      refine wpAnyH_take (i := 4) (oi := { dst := some 21, op := Op.move (Operand.tmp 0), type := 79, pos := "node.go:67", after := #[], guard := none }) (v := ?_) rfl (by kernel_rfl) (by kernel_rfl) (by kernel_rfl) (fun _ _ _ h => h) (Or.inl ⟨by rfl, ?_⟩) (by assumption) ?_
      rotate_left
      · first | (intro w hSw; (try dsimp only at hSw); go_simp; done) | (intro w hSw; (try dsimp only at hSw); go_simp; with_reducible rfl)
      simp only [Act.put, List.setIfInBounds_toArray, List.set_cons_zero, List.set_cons_succ]
      refine wpAnyH_take (i := 5) (oi := { dst := some 22, op := Op.nilCheck (Operand.tmp 21), type := 0, pos := "node.go:67", after := #[{ on := 4, ground := Ground.data }], guard := none }) (v := ?_) rfl (by kernel_rfl) (by kernel_rfl) (by kernel_rfl) (fun _ _ _ h => h) (Or.inl ⟨by rfl, ?_⟩) (by assumption) ?_
      rotate_left
      · first | (intro w hSw; (try dsimp only at hSw); go_simp; done) | (intro w hSw; (try dsimp only at hSw); go_simp; with_reducible rfl)
      simp only [Act.put, List.setIfInBounds_toArray, List.set_cons_zero, List.set_cons_succ]
      refine wpAnyH_take (i := 6) (oi := { dst := some 23, op := Op.fieldAddr 82 (Operand.tmp 22) 3, type := 0, pos := "node.go:67", after := #[{ on := 5, ground := Ground.data }], guard := none }) (v := ?_) rfl (by kernel_rfl) (by kernel_rfl) (by kernel_rfl) (fun _ _ _ h => h) (Or.inl ⟨by rfl, ?_⟩) (by assumption) ?_
      rotate_left
      · first | (intro w hSw; (try dsimp only at hSw); go_simp; done) | (intro w hSw; (try dsimp only at hSw); go_simp; with_reducible rfl)
      simp only [Act.put, List.setIfInBounds_toArray, List.set_cons_zero, List.set_cons_succ]
      refine wpAnyH_take (i := 7) (oi := { dst := some 24, op := Op.load 79 (Operand.tmp 23), type := 79, pos := "node.go:67", after := #[{ on := 6, ground := Ground.data }], guard := none }) (v := ?_) rfl (by kernel_rfl) (by kernel_rfl) (by kernel_rfl) (fun _ _ _ h => h) (Or.inl ⟨by rfl, ?_⟩) (by assumption) ?_
      rotate_left
      · first | (intro w hSw; (try dsimp only at hSw); go_simp; done) | (intro w hSw; (try dsimp only at hSw); go_simp; with_reducible rfl)
      simp only [Act.put, List.setIfInBounds_toArray, List.set_cons_zero, List.set_cons_succ]
      refine wpAnyH_take (i := 8) (oi := { dst := some 25, op := Op.move (Operand.tmp 1), type := 79, pos := "node.go:67", after := #[], guard := none }) (v := ?_) rfl (by kernel_rfl) (by kernel_rfl) (by kernel_rfl) (fun _ _ _ h => h) (Or.inl ⟨by rfl, ?_⟩) (by assumption) ?_
      rotate_left
      · first | (intro w hSw; (try dsimp only at hSw); go_simp; done) | (intro w hSw; (try dsimp only at hSw); go_simp; with_reducible rfl)
      simp only [Act.put, List.setIfInBounds_toArray, List.set_cons_zero, List.set_cons_succ]
      clear hS0 hHeld HR HI
      generalize w.drew = w1 at *
      have HC1 := Lib.hid (with_any k v bl r y w1 (HY.out.on hb1) (HK.out.on hb1) (by omega) (Sh.tab_below HT.out hb1 hw.1) (hw.on hb1))
      rw [ptr_some, ptr_some] at HC1
      refine wpAnyH_ready (rs := [9]) (by kernel_rfl) (by simp) ?_
      refine AllReadyH.cons rfl (fun K hK => ?_) AllReadyH.nil
      go_simp
      refine HC1.out.mono ?_
      rintro e w2 ⟨b1, rfl, hN1, hb2⟩
      rw [ptr_some]
      replace hb2 := hb1.trans (hb2.mono hb1.size)
      refine hK.out _ _ (HH.out.sides hb2) (fun _ => ?_)
      clear hK K HC1 hb1
      have HC2 := Lib.hid (bal_any l (r.put k v) x b1 w2 (HX.out.on hb2) hN1 (by have := put_n k v r; omega) (Sh.tab_below HT.out hb2 hw.1) (hw.on hb2))
      rw [ptr_some, ptr_some] at HC2
      clear hN1
      refine wpAnyH_ready (rs := [10]) (by kernel_rfl) (by simp) ?_
      refine AllReadyH.cons rfl (fun K hK => ?_) AllReadyH.nil
      go_simp
      refine HC2.out.mono ?_
      rintro e w3 ⟨b2, rfl, hN2, hb3⟩
      rw [ptr_some]
      replace hb3 := hb2.trans (hb3.mono hb2.size)
      have hHeld := HH.out.sides hb3
      refine hK.out _ _ hHeld (fun _ => ?_)
      clear hK K HC2 hb2
      have HN2 := Lib.hid hN2
      have HB3 := Lib.hid hb3
      clear hN2 hb3
      refine wpAnyH_take (i := 11) (oi := { dst := some 4, op := Op.assign (Operand.tmp 27), type := 79, pos := "node.go:67", after := #[{ on := 10, ground := Ground.data }, { on := 10, ground := Ground.chain }, { on := 0, ground := Ground.phase }, { on := 1, ground := Ground.phase }, { on := 2, ground := Ground.phase }, { on := 3, ground := Ground.phase }, { on := 4, ground := Ground.phase }, { on := 5, ground := Ground.phase }, { on := 6, ground := Ground.phase }, { on := 7, ground := Ground.phase }, { on := 8, ground := Ground.phase }, { on := 9, ground := Ground.phase }, { on := 10, ground := Ground.phase }], guard := none }) (v := ?_) rfl (by kernel_rfl) (by kernel_rfl) (by kernel_rfl) (fun _ _ _ h => h) (Or.inl ⟨by rfl, ?_⟩) (by assumption) ?_
      rotate_left
      · first | (intro w hSw; (try dsimp only at hSw); go_simp; done) | (intro w hSw; (try dsimp only at hSw); go_simp; with_reducible rfl)
      simp only [Act.put, List.setIfInBounds_toArray, List.set_cons_zero, List.set_cons_succ]
      refine wpAnyH_done (by kernel_rfl) ?_ _
      clear hHeld
      go_wp2_with fail
      go_ret
      exact ⟨b2, rfl, HN2.out, HB3.out⟩
end Go.Proofs.YtolkpjbbfopmnaaDoor
