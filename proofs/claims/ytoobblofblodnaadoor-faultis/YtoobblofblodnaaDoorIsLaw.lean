/-
  The law FaultIs.
-/
import Derived.Test.YtoobblofblodnaaDoorCodes
import Derived.Test.YtoobblofblodnaaDoorIsAll
namespace Go.Proofs.YtoobblofblodnaaDoor
open Go.RowKit Go.Shelf

set_option maxRecDepth 100000 in
set_option maxHeartbeats 4000000 in
theorem is_law_at (code other : Int) (b1 b2 b3 : Bool) (A : Option Addr) (n cap : Nat) (ps : List Pl) (w : World) (hg : Laid w) (hr : PRd w A n ps) (hn : n ≤ cap) (hm : cap ≤ maxLen)
    (h1 : (code == other) = b1) (h2 : (code == 0) = b2) (h3 : (code != 0) = b3) (h4 : b3 = !b2) :
    Calls Tryd.prog 4 #[.int .i64 code, .int .i64 other, .slice A n cap] w fun e w' => e = .returned (.bool true) ∧ Below w.heap.size w w' := by
  have hd : ∀ {e : Err}, MadeOf code (ps.take 20) e → e.depth ≤ 900 := fun h => by
    have := h.depth
    simp at this
    omega
  have hmk := fun w1 (hb1 : Below w.heap.size w w1) => made_any code A n cap ps w1 (hr.below hb1) hn hm
  have hself : (code == code) = true := by simp
  have H1 := Lib.hid h1
  have H2 := Lib.hid h2
  have H3 := Lib.hid h3
  have HS := Lib.hid hself
  clear h1 h2 h3 hself
  go_enter Tryd.func4, Tryd.ntmps4
  go_wp2_with (go_at_call 9; refine (awake_any w hg).mono ?_; rintro e w1 ⟨rfl, hb1⟩)
  refine (hmk w1 hb1).mono ?_
  rintro ev w2 ⟨e, rfl, hin, hb2, hmade⟩
  clear hmk
  have n1 := hmade.isNum other
  have n2 := hmade.isNum code
  rw [H2.out, H1.out] at n1
  rw [H2.out, HS.out] at n2
  have i1 := is_any e other w2 hin (hd hmade)
  rw [n1] at i1
  obtain ⟨te, xe, hve⟩ := e.val_iface
  rw [hve] at i1 ⊢
  go_wp2_with (fail)
  refine i1.mono ?_
  rintro ev w3 ⟨rfl, hb3⟩
  have hin3 := hin.below hb3 hin.top_le
  have i2 := is_any e code w3 hin3 (hd hmade)
  rw [n2, hve] at i2
  have g1 := H1.out
  have g3 := H3.out
  have hd20 := hd hmade
  have HV := Lib.hid hve
  have HN := Lib.hid n2
  clear n1 n2 i1 hve
  subst h4
  cases b1 <;> cases b2 <;> simp only [Bool.not_true, Bool.not_false, Bool.and_true, Bool.and_false] at g3 i2 ⊢
  all_goals
    go_wp2_with (fail)
    refine i2.mono ?_
    rintro ev w4 ⟨rfl, hb4⟩
    go_wp2_with (go_at_call 12; refine (is_nil code w4).mono ?_; rintro ev w5 ⟨rfl, hb5⟩)
    have s1 := hb1.size
    have s2 := hb2.size
    have s3 := hb3.size
    have s4 := hb4.size
    have hin5 := (hin3.below hb4 hin3.top_le).below hb5 (by have := (hin3.below hb4 hin3.top_le).top_le; exact this)
    have i3 := is27_any e code w5 hin5
    rw [HN.out, HV.out] at i3
    refine (is13_of code w5 i3).mono ?_
    rintro ev w6 ⟨rfl, hb6⟩
    go_wp2
    go_ret
    have s5 := hb5.size
    exact ⟨rfl, ((((hb1.trans (hb2.mono (by omega))).trans (hb3.mono (by omega))).trans (hb4.mono (by omega))).trans (hb5.mono (by omega))).trans (hb6.mono (by omega))⟩

theorem is_law (code other : Int) (A : Option Addr) (n cap : Nat) (ps : List Pl) (w : World) (hg : Laid w) (hr : PRd w A n ps) (hn : n ≤ cap) (hm : cap ≤ maxLen) :
    Calls Tryd.prog 4 #[.int .i64 code, .int .i64 other, .slice A n cap] w fun e w' => e = .returned (.bool true) ∧ Below w.heap.size w w' :=
  is_law_at code other _ _ _ A n cap ps w hg hr hn hm rfl rfl rfl rfl
end Go.Proofs.YtoobblofblodnaaDoor
