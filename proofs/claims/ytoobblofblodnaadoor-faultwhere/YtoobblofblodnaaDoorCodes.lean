/-
  The laws FaultCodes and FaultNone.
-/
import Derived.Test.YtoobblofblodnaaDoorMade
namespace Go.Proofs.YtoobblofblodnaaDoor
open Go.RowKit Go.Shelf

theorem PRd.below {w w' : World} {A : Option Addr} {n : Nat} {ps : List Pl} (h : PRd w A n ps) (hb : Below w.heap.size w w') : PRd w' A n ps := by
  refine ⟨h.len, ?_⟩
  rcases h.cells with h0 | ⟨b, o, rfl, hl, hc⟩
  · exact .inl h0
  · refine .inr ⟨b, o, rfl, by have := hb.size; omega, fun i p hp => ?_⟩
    obtain ⟨h1, h2, h3⟩ := hc i p hp
    exact ⟨(hb.cell (p := ⟨b, _, none⟩) hl).trans h1, (hb.cell (p := ⟨b, _, none⟩) hl).trans h2, (hb.cell (p := ⟨b, _, none⟩) hl).trans h3⟩

set_option maxRecDepth 100000 in
theorem codes_law (code : Int) (A : Option Addr) (n cap : Nat) (ps : List Pl) (w : World) (hg : Laid w) (hr : PRd w A n ps) (hn : n ≤ cap) (hm : cap ≤ maxLen) :
    Calls Tryd.prog 3 #[.int .i64 code, .slice A n cap] w fun e w' => e = .returned (.bool true) ∧ Below w.heap.size w w' := by
  have hd : ∀ {e : Err}, MadeOf code (ps.take 20) e → e.depth ≤ 900 := fun h => by
    have := h.depth
    simp at this
    omega
  by_cases hz : code = 0
  · subst hz
    go_enter Tryd.func3, Tryd.ntmps3
    go_wp2_with (go_at_call 9; refine (awake_any w hg).mono ?_; rintro e w1 ⟨rfl, hb1⟩)
    refine (made_any 0 A n cap ps w1 (hr.below hb1) hn hm).mono ?_
    rintro ev w2 ⟨e, rfl, hin, hb2, hmade⟩
    have hc := code_any e w2 ((hg.below hb1).below hb2) hin (hd hmade)
    have hcode := hmade.code
    obtain ⟨te, xe, hve⟩ := e.val_iface
    rw [hve] at hc ⊢
    rw [hcode] at hc
    clear hcode
    go_wp2_with (fail)
    refine hc.mono ?_
    rintro ev w3 ⟨rfl, hb3⟩
    go_wp2_with (go_at_call 10; refine (code_nil w3).mono ?_; rintro e w4 ⟨rfl, hb4⟩)
    go_ret
    exact ⟨rfl, ((hb1.trans (hb2.mono hb1.size)).trans (hb3.mono (by have := hb1.size; have := hb2.size; omega))).trans (hb4.mono (by have := hb1.size; have := hb2.size; have := hb3.size; omega))⟩
  · have hz1 : (code == 0) = false := by simpa using hz
    go_enter Tryd.func3, Tryd.ntmps3
    go_wp2_with (go_at_call 9; refine (awake_any w hg).mono ?_; rintro e w1 ⟨rfl, hb1⟩)
    refine (made_any code A n cap ps w1 (hr.below hb1) hn hm).mono ?_
    rintro ev w2 ⟨e, rfl, hin, hb2, hmade⟩
    have hc := code_any e w2 ((hg.below hb1).below hb2) hin (hd hmade)
    have hcode := hmade.code
    rw [if_neg hz] at hcode
    obtain ⟨te, xe, hve⟩ := e.val_iface
    rw [hve] at hc ⊢
    rw [hcode] at hc
    clear hcode
    go_wp2_with (fail)
    refine hc.mono ?_
    rintro ev w3 ⟨rfl, hb3⟩
    go_wp2_with (go_at_call 10; refine (code_nil w3).mono ?_; rintro e w4 ⟨rfl, hb4⟩)
    go_ret
    exact ⟨rfl, ((hb1.trans (hb2.mono hb1.size)).trans (hb3.mono (by have := hb1.size; have := hb2.size; omega))).trans (hb4.mono (by have := hb1.size; have := hb2.size; have := hb3.size; omega))⟩

set_option maxRecDepth 100000 in
theorem none_law (s : ByteArray) (n code : Int) (w : World) (hg : Laid w) :
    Calls Tryd.prog 6 #[.string s, .int .i64 n, .int .i64 code] w fun e w' => e = .returned (.bool true) ∧ Below w.heap.size w w' := by
  have q := nilEqN
  by_cases hz : code = 0
  · subst hz
    go_enter Tryd.func6, Tryd.ntmps6
    go_wp2_with (first | (go_at_call 9; refine (awake_any w hg).mono ?_; rintro e w1 ⟨rfl, hb1⟩) | (go_at_call 15; refine (of_zero _).mono ?_; rintro e w2 ⟨rfl, rfl⟩) | (go_at_call 16; refine (at_none _ _ _).mono ?_; rintro e w3 ⟨rfl, rfl⟩) | (go_at_call 10; refine (code_nil _).mono ?_; rintro e w4 ⟨rfl, hb4⟩))
    go_ret
    exact ⟨rfl, hb1.trans (hb4.mono hb1.size)⟩
  · have hz1 : (code == 0) = false := by simpa using hz
    have q2 := nilEq 24 (.int .i64 code)
    have hc := fun w1 (hb1 : Below w.heap.size w w1) => code_any (.num code) w1 (hg.below hb1) trivial (by simp [Err.depth])
    go_enter Tryd.func6, Tryd.ntmps6
    go_wp2_with (first | (go_at_call 9; refine (awake_any w hg).mono ?_; rintro e w1 ⟨rfl, hb1⟩) | (go_at_call 15; refine (of_some _ hz1 _).mono ?_; rintro e w2 ⟨rfl, rfl⟩) | (go_at_call 16; refine (at_none _ _ _).mono ?_; rintro e w3 ⟨rfl, rfl⟩))
    refine (hc w1 hb1).mono ?_
    rintro e w4 ⟨rfl, hb4⟩
    dsimp only [Err.code]
    clear hc
    go_wp2
    go_ret
    exact ⟨rfl, hb1.trans (hb4.mono hb1.size)⟩
end Go.Proofs.YtoobblofblodnaaDoor
