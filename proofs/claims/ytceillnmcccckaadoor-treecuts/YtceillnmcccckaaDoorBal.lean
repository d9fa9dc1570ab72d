/-
  What balanced returns: a balanced node above two; conditions: both lie in memory, their leaves are no more than 4294967296, the table holds its words. It only makes memory of its own.
-/
import Derived.Test.YtceillnmcccckaaDoorLean
namespace Go.Proofs.YtceillnmcccckaaDoor
open Go.RowKit
open Tr
variable {G : Nat → Prop}

set_option maxRecDepth 100000 in
set_option maxHeartbeats 1000000 in
theorem bal_any (l r : T) (bl br : Nat) (w : World) (hl : NIn G w w.heap.size l bl) (hr : NIn G w w.heap.size r br) (hn : l.n + r.n ≤ 4294967296) (ht : Sh.Tab w 1) (hw : Room G w) :
    Calls Tryd.prog 60 #[ptr (some bl), ptr (some br)] w (NodePost G (bal l r) w) := by
  have cl := hl.high (Below.refl _ _)
  have cr := hr.high (Below.refl _ _)
  have HL := Lib.hid hl
  have HR := Lib.hid hr
  have HT := Lib.hid ht
  have h1 := T.h_lt l
  have h2 := T.h_lt r
  have i1 : IntKind.i64.wrap ((l.h : Int) + 1) = (l.h : Int) + 1 := IntWalk.i64_in _ (by omega)
  have i2 : IntKind.i64.wrap ((r.h : Int) + 1) = (r.h : Int) + 1 := IntWalk.i64_in _ (by omega)
  clear hl hr ht h1 h2
  rw [ptr_some, ptr_some]
  by_cases ha : r.h + 1 < l.h
  · obtain ⟨a, m, rfl⟩ : ∃ a m, l = .node a m := T.node_of_h (by omega)
    have HG : Hid (bal (.node a m) r = leanL a m r) := Lib.hid (by unfold bal; rw [if_pos ha])
    rw [HG.out]
    have q1 : decide ((r.h : Int) + 1 < ((T.node a m).h : Int)) = true := by simp; omega
    have e0 : (T.node a m).n = a.n + m.n := rfl
    clear ha HG
    generalize (T.node a m).h = ah at *
    generalize r.h = rh at *
    go_enter Tryd.func60, Tryd.ntmps60
    go_wp2_with fail
    go_quiet (fail)
    rename Nat => nq1
    have hbq : Below w.heap.size w (w.drewN nq1) := below_drewN (Below.refl _ _) _
    go_upto_region 2 with (fail)
    generalize w.drewN nq1 = w1 at *
    clear cl cr i1 i2 q1
    have HC1 := Lib.hid (leanL_any a m r bl br w1 (HL.out.on hbq) (HR.out.on hbq) (by omega) (Sh.tab_below HT.out hbq hw.1) (hw.on hbq))
    rw [ptr_some, ptr_some] at HC1
    have HBQ := Lib.hid hbq
    clear hbq
    go_wp2_with fail
    refine HC1.out.mono ?_
    rintro e w2 ⟨b1, rfl, hN1, hb2⟩
    rw [ptr_some]
    have HN1 := Lib.hid hN1
    have HB2 := Lib.hid (HBQ.out.trans (hb2.mono HBQ.out.size))
    clear hN1 hb2 HC1 HBQ
    go_wp2_with fail
    go_ret
    exact ⟨b1, rfl, HN1.out, HB2.out⟩
  · have q1 : decide ((r.h : Int) + 1 < (l.h : Int)) = false := by simp; omega
    by_cases hb : l.h + 1 < r.h
    · obtain ⟨m, d, rfl⟩ : ∃ m d, r = .node m d := T.node_of_h (by omega)
      have HG : Hid (bal l (.node m d) = leanR l m d) := Lib.hid (by unfold bal; rw [if_neg ha, if_pos hb])
      rw [HG.out]
      have q2 : decide ((l.h : Int) + 1 < ((T.node m d).h : Int)) = true := by simp; omega
      have e0 : (T.node m d).n = m.n + d.n := rfl
      clear ha hb HG
      generalize (T.node m d).h = rh at *
      generalize l.h = lh at *
      go_enter Tryd.func60, Tryd.ntmps60
      go_wp2_with fail
      go_quiet (fail)
      rename Nat => nq1
      go_wp2_with fail
      go_quiet (fail)
      rename Nat => nq2
      have hbq : Below w.heap.size w ((w.drewN nq1).drewN nq2) := below_drewN (below_drewN (Below.refl _ _) _) _
      go_upto_region 4 with (fail)
      generalize (w.drewN nq1).drewN nq2 = w1 at *
      clear cl cr i1 i2 q1 q2
      have HC1 := Lib.hid (leanR_any l m d bl br w1 (HL.out.on hbq) (HR.out.on hbq) (by omega) (Sh.tab_below HT.out hbq hw.1) (hw.on hbq))
      rw [ptr_some, ptr_some] at HC1
      have HBQ := Lib.hid hbq
      clear hbq
      go_wp2_with fail
      refine HC1.out.mono ?_
      rintro e w2 ⟨b1, rfl, hN1, hb2⟩
      rw [ptr_some]
      have HN1 := Lib.hid hN1
      have HB2 := Lib.hid (HBQ.out.trans (hb2.mono HBQ.out.size))
      clear hN1 hb2 HC1 HBQ
      go_wp2_with fail
      go_ret
      exact ⟨b1, rfl, HN1.out, HB2.out⟩
    · have q2 : decide ((l.h : Int) + 1 < (r.h : Int)) = false := by simp; omega
      have HG : Hid (bal l r = .node l r) := Lib.hid (by unfold bal; rw [if_neg ha, if_neg hb])
      rw [HG.out]
      clear ha hb HG
      generalize l.h = lh at *
      generalize r.h = rh at *
      go_enter Tryd.func60, Tryd.ntmps60
      go_wp2_with fail
      go_quiet (fail)
      rename Nat => nq1
      go_wp2_with fail
      go_quiet (fail)
      rename Nat => nq2
      have hbq : Below w.heap.size w ((w.drewN nq1).drewN nq2) := below_drewN (below_drewN (Below.refl _ _) _) _
      go_upto_region 5 with (fail)
      generalize (w.drewN nq1).drewN nq2 = w1 at *
      clear cl cr i1 i2 q1 q2
      have HC1 := Lib.hid (above_any l r bl br w1 (HL.out.on hbq) (HR.out.on hbq) (by omega) (Sh.tab_below HT.out hbq hw.1) (hw.on hbq))
      rw [ptr_some, ptr_some] at HC1
      have HBQ := Lib.hid hbq
      clear hbq
      go_wp2_with fail
      refine HC1.out.mono ?_
      rintro e w2 ⟨b1, rfl, hN1, hb2⟩
      rw [ptr_some]
      have HN1 := Lib.hid hN1
      have HB2 := Lib.hid (HBQ.out.trans (hb2.mono HBQ.out.size))
      clear hN1 hb2 HC1 HBQ
      go_wp2_with fail
      go_ret
      exact ⟨b1, rfl, HN1.out, HB2.out⟩
end Go.Proofs.YtceillnmcccckaaDoor
