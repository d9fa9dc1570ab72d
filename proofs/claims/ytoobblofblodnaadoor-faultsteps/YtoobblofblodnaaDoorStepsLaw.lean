/-
  The law FaultSteps.
-/
import Derived.Test.YtoobblofblodnaaDoorText2
import Derived.Test.YtoobblofblodnaaDoorAsX
namespace Go.Proofs.YtoobblofblodnaaDoor
open Go.RowKit Go.Shelf

theorem asx_any (b Bs : Nat) (old : Value) (w : World) (hg : Laid w) (hc : w.cell? ⟨Bs, 0, none⟩ = some old) (hf : w.frozen? ⟨Bs, 0, none⟩ = false) :
    Calls Tryd.prog 17 #[.iface 43 (.agg #[.iface 40 (.pointer (some ⟨b, 0, none⟩))]), .iface 44 (.pointer (some ⟨Bs, 0, none⟩))] w fun ev w' => ev = .returned (.bool true) ∧ Kept (fun k => k = Bs) w w' ∧ w'.cell? ⟨Bs, 0, none⟩ = some (.pointer (some ⟨b, 0, none⟩)) := by
  have hl : Bs < w.heap.size := lt_of_cell hc
  have kX : Kept noBlock w (asX ⟨Bs, 0, none⟩ w) := ((Kept.refl _ w).alloc _).alloc _
  have hs : (asX ⟨Bs, 0, none⟩ w).heap.size = w.heap.size + 1 + 1 := by simp [asX]
  have cX := (kX.cell (p := ⟨Bs, 0, none⟩) hl (fun h => h)).trans hc
  refine as17x_of _ w hg ((as32_step b ⟨Bs, 0, none⟩ ⟨w.heap.size, 0, none⟩ old (asX ⟨Bs, 0, none⟩ w) ?_ cX ((kX.frozen (p := ⟨Bs, 0, none⟩) hl (fun h => h)).trans hf)).mono ?_)
  · unfold asX
    rw [cOld (by simp), cNew rfl]
    rfl
  · rintro ev w' ⟨rfl, rfl⟩
    refine ⟨⟨true, rfl⟩, rfl, Kept.setCell (O := fun k => k = Bs) ((((kX.mono (fun _ _ h => h.elim)).alloc _).alloc _).alloc _) (p := ⟨Bs, 0, none⟩) (fun _ => rfl) _, cSet (u := old) ?_⟩
    rw [cOld (by simp [hs]; omega), cOld (by simp [hs]; omega), cOld (by omega)]
    exact cX

set_option maxRecDepth 100000 in
theorem unwrap19 (b : Nat) (v : Value) (w : World) (h : w.cell? ⟨b, 2, none⟩ = some v) : Calls Tryd.prog 19 #[.iface 40 (.pointer (some ⟨b, 0, none⟩))] w fun e w' => e = .returned v ∧ w = w' := by
  have q := tA40_79
  have m1 := methodUnwrap40
  go_enter Tryd.func19, Tryd.ntmps19
  go_wp2_with (go_at_call 79; refine (stepUnwrap b v _ h).mono ?_; rintro e w' ⟨rfl, rfl⟩)
  go_ret
  exact ⟨rfl, rfl⟩

set_option maxRecDepth 100000 in
theorem steps_long (s : ByteArray) (n code : Int) (w : World) (hg : Laid w) (hl : 1000 < s.size) (hm : s.size ≤ maxLen) :
    Calls Tryd.prog 7 #[.string s, .int .i64 n, .int .i64 code] w fun e w' => e = .returned (.bool true) ∧ Below w.heap.size w w' := by
  unfold maxLen at hm
  go_enter Tryd.func7, Tryd.ntmps7
  go_wp2_with (go_at_call 9; refine (awake_any w hg).mono ?_; rintro e w1 ⟨rfl, hb1⟩)
  go_ret
  exact ⟨rfl, hb1⟩

set_option maxRecDepth 100000 in
set_option maxHeartbeats 8000000 in
theorem steps_short (s : ByteArray) (n code : Int) (w : World) (hg : Laid w) (ht : Tens w) (hl : s.size ≤ 1000)
    (n0 : -9223372036854775808 ≤ n) (n1 : n ≤ 9223372036854775807) (c0 : -9223372036854775808 ≤ code) (c1 : code ≤ 9223372036854775807) :
    Calls Tryd.prog 7 #[.string s, .int .i64 n, .int .i64 code] w fun e w' => e = .returned (.bool true) ∧ Below w.heap.size w w' := by
  go_enter Tryd.func7, Tryd.ntmps7
  go_wp2_with (first | (go_at_call 9; refine (awake_any w hg).mono ?_; rintro e w1 ⟨rfl, hb1⟩) | (go_at_call 16; refine (at_some _ _ _ _ _).mono ?_; rintro e w' ⟨rfl, rfl⟩))
  have hs1 := hb1.size
  have hz2 : (w1.alloc (.cells #[.pointer none] 40)).heap.size = w1.heap.size + 1 := by simp
  have i3 : (Err.step (w1.heap.size + 1) s n (.num code)).In ((w1.alloc (.cells #[.pointer none] 40)).alloc (.cells #[.string s, .int .i64 n, .iface 24 (.int .i64 code)] 46)) := by
    have := step_in (w := w1.alloc (.cells #[.pointer none] 40)) (s := s) (n := n) (e := .num code) trivial
    rw [hz2] at this
    exact this
  have hb3 : Below w1.heap.size w1 ((w1.alloc (.cells #[.pointer none] 40)).alloc (.cells #[.string s, .int .i64 n, .iface 24 (.int .i64 code)] 46)) := ((Below.refl _ w1).alloc (Nat.le_refl _) _).alloc (by simp) _
  have g3 := (hg.below hb1).below hb3
  have cs3 : ((w1.alloc (.cells #[.pointer none] 40)).alloc (.cells #[.string s, .int .i64 n, .iface 24 (.int .i64 code)] 46)).cell? ⟨w1.heap.size, 0, none⟩ = some (.pointer none) := (cOld (by rw [hz2]; omega)).trans (by rw [cNew rfl]; rfl)
  have fs3 : ((w1.alloc (.cells #[.pointer none] 40)).alloc (.cells #[.string s, .int .i64 n, .iface 24 (.int .i64 code)] 46)).frozen? ⟨w1.heap.size, 0, none⟩ = false := (fOld (by rw [hz2]; omega)).trans (fNew rfl)
  have hz3 : ((w1.alloc (.cells #[.pointer none] 40)).alloc (.cells #[.string s, .int .i64 n, .iface 24 (.int .i64 code)] 46)).heap.size = w1.heap.size + 1 + 1 := by simp
  generalize (w1.alloc (.cells #[.pointer none] 40)).alloc (.cells #[.string s, .int .i64 n, .iface 24 (.int .i64 code)] 46) = w3 at i3 hb3 g3 cs3 fs3 hz3 ⊢
  refine (asx_any (w1.heap.size + 1) w1.heap.size _ w3 g3 cs3 fs3).mono ?_
  rintro ev w4 ⟨rfl, k4, cs4⟩
  have hs4 := k4.size
  have i4 : (Err.step (w1.heap.size + 1) s n (.num code)).In w4 := ⟨(k4.block _ (by omega) (by simp)).trans i3.1, i3.2.1, trivial⟩
  have hb4 : Below w1.heap.size w1 w4 := hb3.trans (k4.below (by omega) (fun k hk => by omega))
  have hbw : Below w.heap.size w w4 := hb1.trans (hb4.mono hs1)
  have errC : ∀ W, Below w4.heap.size w4 W → Calls Tryd.prog 18 #[.pointer (some ⟨w1.heap.size + 1, 0, none⟩)] W fun ev w' => ev = .returned (.string (said s n code)) ∧ Below W.heap.size W w' := fun W hW =>
    error_any _ s n code W ((hg.below hbw).below hW) ((ht.of_block (hbw.block 1 ht.lt)).of_block (hW.block 1 (by have := ht.lt; have := hbw.size; omega))) (i4.below hW i4.top_le) hl n0 n1 c0 c1
  have e0 : w4.cell? ⟨w1.heap.size + 1, 0, none⟩ = some (.string s) := cell_of_block i4.1 0
  have e1 : w4.cell? ⟨w1.heap.size + 1, 1, none⟩ = some (.int .i64 n) := cell_of_block i4.1 1
  have e2 : w4.cell? ⟨w1.heap.size + 1, 2, none⟩ = some (.iface 24 (.int .i64 code)) := cell_of_block i4.1 2
  have hl1 : w1.heap.size < w4.heap.size := by omega
  have hl2 : w1.heap.size + 1 < w4.heap.size := by omega
  have hnil : ∀ w : World, (binOp .eql 40 (.pointer (some ⟨w1.heap.size + 1, 0, none⟩)) (.pointer none)).run Tryd.prog w = .ok (.bool false) w := fun w => by kernel_rfl
  have gAll : ∀ W, Below w4.heap.size w4 W → Laid W := fun W hW => (hg.below hbw).below hW
  clear hz2 hz3 i3 cs3 fs3 k4
  go_wp2_with (fail)
  have hcode : ∀ W, Below w4.heap.size w4 W → Calls Tryd.prog 10 #[.iface 24 (.int .i64 code)] W fun ev w' => ev = .returned (.int .i64 code) ∧ Below W.heap.size W w' := fun W hW => code_any (.num code) W (gAll W hW) trivial (by simp [Err.depth])
  have HE := Lib.hid errC
  have HC := Lib.hid hcode
  have HG := Lib.hid gAll
  have HBW := Lib.hid hbw
  clear errC hcode gAll hbw i4 g3 hb3 hb4 hg ht
  have errA := HE.out w4.drew ⟨rfl, rfl, rfl, Nat.le_refl _, fun _ _ => rfl⟩
  go_region_with (first
    | (go_at_call 18; first
        | (refine errB.mono ?_; rintro ev w6 ⟨rfl, hb6⟩; have l6 : w4.heap.size ≤ w5.heap.size := hb5.size; have e26 : w6.cell? ⟨w1.heap.size + 1, 2, none⟩ = some (.iface 24 (.int .i64 code)) := (hb6.cell (p := ⟨w1.heap.size + 1, 2, none⟩) (Nat.lt_of_lt_of_le hl2 l6)).trans e25; have cs6 : w6.cell? ⟨w1.heap.size, 0, none⟩ = some (.pointer (some ⟨w1.heap.size + 1, 0, none⟩)) := (hb6.cell (p := ⟨w1.heap.size, 0, none⟩) (Nat.lt_of_lt_of_le hl1 l6)).trans cs5)
        | (refine errA.mono ?_; rintro ev w5 ⟨rfl, hb5⟩; have errB := HE.out w5 ⟨hb5.os, hb5.tape, hb5.output, hb5.size, hb5.block⟩; have e25 : w5.cell? ⟨w1.heap.size + 1, 2, none⟩ = some (.iface 24 (.int .i64 code)) := (hb5.cell (p := ⟨w1.heap.size + 1, 2, none⟩) hl2).trans e2; have cs5 : w5.cell? ⟨w1.heap.size, 0, none⟩ = some (.pointer (some ⟨w1.heap.size + 1, 0, none⟩)) := (hb5.cell (p := ⟨w1.heap.size, 0, none⟩) hl1).trans cs4))
    | (go_at_call 19; refine (unwrap19 _ _ w6 e26).mono ?_; rintro ev w7 ⟨rfl, rfl⟩)
    | (go_at_call 10; refine (HC.out w6 ⟨hb6.os.trans hb5.os, hb6.tape.trans hb5.tape, hb6.output.trans hb5.output, Nat.le_trans hb5.size hb6.size, fun k hk => (hb6.block k (Nat.lt_of_lt_of_le hk hb5.size)).trans (hb5.block k hk)⟩).mono ?_; rintro ev w8 ⟨rfl, hb8⟩))
  all_goals
    have t5 : Below w4.heap.size w4 w5 := ⟨hb5.os, hb5.tape, hb5.output, hb5.size, hb5.block⟩
    have HB := Lib.hid ((HBW.out.trans (t5.mono HBW.out.size)).trans ((hb6.mono (Nat.le_trans HBW.out.size t5.size)).trans (hb8.mono (Nat.le_trans (Nat.le_trans HBW.out.size t5.size) hb6.size))))
    clear errA errB t5
    go_wp2
    go_ret
    exact ⟨rfl, HB.out⟩

theorem steps_law (s : ByteArray) (n code : Int) (w : World) (hg : Laid w) (ht : Tens w) (hm : s.size ≤ maxLen)
    (n0 : -9223372036854775808 ≤ n) (n1 : n ≤ 9223372036854775807) (c0 : -9223372036854775808 ≤ code) (c1 : code ≤ 9223372036854775807) :
    Calls Tryd.prog 7 #[.string s, .int .i64 n, .int .i64 code] w fun e w' => e = .returned (.bool true) ∧ Below w.heap.size w w' := by
  rcases Nat.lt_or_ge 1000 s.size with h | h
  · exact steps_long s n code w hg h hm
  · exact steps_short s n code w hg ht h n0 n1 c0 c1
end Go.Proofs.YtoobblofblodnaaDoor
