/-
  What the statement's function ShaSame returns: true, whatever two slices of bytes and bool come in; conditions: they are read, and the two tables hold their words. It only makes memory of its own.
-/
import Derived.Test.YtpaciildaanfbaaDoorClash
namespace Go.Proofs.YtpaciildaanfbaaDoor
open Go.RowKit

set_option maxRecDepth 100000 in
set_option maxHeartbeats 1000000 in
theorem same_any (A1 A2 : Option Addr) (n1 n2 c1 c2 : Nat) (b1 b2 : List UInt8) (same : Bool) (w : World) (hr1 : Reads w A1 n1 b1) (hr2 : Reads w A2 n2 b2)
    (k1 : n1 ≤ c1) (k2 : n2 ≤ c2) (m1 : n1 ≤ 9223372036854775807) (m2 : n2 ≤ 9223372036854775807) (ht : Tab w 1) (ht0 : Tab w 0) (hw : 1 < w.heap.size) :
    Calls Tryd.prog 6 #[.slice A1 n1 c1, .slice A2 n2 c2, .bool same] w fun e w' => e = .returned (.bool true) ∧ Below w.heap.size w w' := by
  have HR1 := Lib.hid hr1
  have HR2 := Lib.hid hr2
  have HT := Lib.hid ht
  have HT0 := Lib.hid ht0
  clear hr1 hr2 ht ht0
  go_enter Tryd.func6, Tryd.ntmps6
  go_wp2_with fail
  refine (awake_any w HT.out hw).mono ?_
  rintro e w1 ⟨rfl, hb1⟩
  by_cases h1000 : 500 < n1
  · go_wp2_with fail
    go_ret
    exact ⟨rfl, hb1⟩
  by_cases h1001 : 500 < n2
  · go_wp2_with fail
    go_ret
    exact ⟨rfl, hb1⟩
  have q1 : decide (500 < (n1 : Int)) = false := by simp; omega
  have q2 : decide (500 < (n2 : Int)) = false := by simp; omega
  have HB1 := Lib.hid hb1
  clear hb1
  cases same with
  | true =>
    go_upto_region 6 with (fail)
    refine wp_region_lit ?_
    iterate 6 go_step
    have hbE : Below w.heap.size w (w1.alloc (.cells #[] 5)) := HB1.out.alloc HB1.out.size _
    refine wpList_append_reads rfl (.tmp 19) (.tmp 20) rfl w1.heap.size _ 0 [] rfl (World.ownsRow_lit w1 #[] 0 (Nat.le_refl _) (by unfold maxLen; omega) rfl) A1 n1 c1 b1 rfl (HR1.out.below hbE) (by omega) (by simp) ?_
    intro v2 w2 hown2 hg2 _
    have hb2 : Below w.heap.size w w2 := hbE.grown hg2 (by have := HB1.out.size; simp; omega) (fun k hk => by have hk' : some w1.heap.size = some k := hk; injection hk' with hk'; have := HB1.out.size; omega)
    rw [List.nil_append, Nat.zero_add] at hown2
    obtain ⟨A2', c2', rfl, hr2'⟩ := reads_own hown2
    have hnc : n1 ≤ c2' := by
      rcases hown2.2 with ⟨h0, h00⟩ | ⟨g, cap, cur, h0, _, _, hle, _⟩
      · injection h0 with e1 e2 e3; omega
      · injection h0 with e1 e2 e3; omega
    have HR2' := Lib.hid hr2'
    have HB2 := Lib.hid hb2
    clear hg2 hown2 hb2 hr2' hbE
    go_simp
    have HRA := Lib.hid (HR1.out.below HB2.out)
    have HRB := Lib.hid HR2'.out
    have HTB := Lib.hid (tab_below HT.out HB2.out hw)
    have HTB0 := Lib.hid (tab0_below HT0.out HB2.out hw)
    have hwb : 1 < w2.heap.size := by have := HB2.out.size; omega
    have HBB : Hid (Below w2.heap.size w2 w2) := Below.refl _ _
    have hs1 := run_string w2 A1 n1 c1 b1 HRA.out
    have hs2 := run_string w2 A2' n1 c2' b1 HRB.out
    generalize (⟨b1.toArray⟩ : ByteArray) = S at hs1 hs2
    go_wp2_with fail
    obtain ⟨X, hX⟩ : ∃ X, bcells (Sha.sum b1) = X := ⟨_, rfl⟩
    have HX := Lib.hid hX
    have heq := fun w => run_eq25 b1 b1 w
    rw [beq_self_eq_true, hX] at heq
    clear hX hs1 hs2
    have hbpw3 : Below w2.heap.size w2 (w2.alloc (.cells #[.slice A1 n1 c1] 22)) := HBB.out.alloc HBB.out.size _
    refine (sum_as _ 1 1 [b1] b1 (List.append_nil b1) _ (parts_one w2 22 A1 n1 c1 b1 (HRA.out.below HBB.out) (by omega) (by omega)) (by omega) (tab_below HTB.out hbpw3 hwb) (by have := HBB.out.size; simp; omega)).mono ?_
    rintro e w3 ⟨rfl, hbw3⟩
    have HB3 := Lib.hid (hbpw3.trans (hbw3.mono hbpw3.size))
    clear hbpw3 hbw3
    rw [HX.out]
    go_wp2_with fail
    have hbpw4 : Below w2.heap.size w2 (w3.alloc (.cells #[.slice none 0 0, .slice A1 n1 c1, .slice none 0 0] 22)) := HB3.out.alloc HB3.out.size _
    refine (sum_as _ 3 3 [[], b1, []] b1 (by simp) _ (parts_three w3 22 none A1 none 0 n1 0 0 c1 0 [] b1 [] (reads_nil _) (HRA.out.below HB3.out) (reads_nil _) (by omega) (by omega) (by omega) (by omega) (by omega) (by omega)) (by omega) (tab_below HTB.out hbpw4 hwb) (by have := HB3.out.size; simp; omega)).mono ?_
    rintro e w4 ⟨rfl, hbw4⟩
    have HB4 := Lib.hid (hbpw4.trans (hbw4.mono hbpw4.size))
    clear hbpw4 hbw4
    rw [HX.out]
    go_wp2_with fail
    have hbpw5 : Below w2.heap.size w2 (w4.alloc (.cells #[.slice A1 n1 c1] 22)) := HB4.out.alloc HB4.out.size _
    refine (sum_as _ 1 1 [b1] b1 (List.append_nil b1) _ (parts_one w4 22 A1 n1 c1 b1 (HRA.out.below HB4.out) (by omega) (by omega)) (by omega) (tab_below HTB.out hbpw5 hwb) (by have := HB4.out.size; simp; omega)).mono ?_
    rintro e w5 ⟨rfl, hbw5⟩
    have HB5 := Lib.hid (hbpw5.trans (hbw5.mono hbpw5.size))
    clear hbpw5 hbw5
    rw [HX.out]
    go_wp2_with fail
    have hbpw6 : Below w2.heap.size w2 (w5.alloc (.cells #[.slice A2' n1 c2'] 22)) := HB5.out.alloc HB5.out.size _
    refine (sum_as _ 1 1 [b1] b1 (List.append_nil b1) _ (parts_one w5 22 A2' n1 c2' b1 (HRB.out.below HB5.out) (by omega) (by omega)) (by omega) (tab_below HTB.out hbpw6 hwb) (by have := HB5.out.size; simp; omega)).mono ?_
    rintro e w6 ⟨rfl, hbw6⟩
    have HB6 := Lib.hid (hbpw6.trans (hbw6.mono hbpw6.size))
    clear hbpw6 hbw6
    rw [HX.out]
    go_wp2_with fail
    go_ret
    exact ⟨rfl, HB2.out.trans (HB6.out.mono HB2.out.size)⟩
  | false =>
    have HRA := Lib.hid (HR1.out.below HB1.out)
    have HRB := Lib.hid (HR2.out.below HB1.out)
    have HTB := Lib.hid (tab_below HT.out HB1.out hw)
    have HTB0 := Lib.hid (tab0_below HT0.out HB1.out hw)
    have hwb : 1 < w1.heap.size := by have := HB1.out.size; omega
    have HBB : Hid (Below w1.heap.size w1 w1) := Below.refl _ _
    by_cases hal : b1 = b2
    · subst hal
      have hn12 : n2 = n1 := by rw [← HR1.out.1, ← HR2.out.1]
      subst hn12
      have hs1 := run_string w1 A1 n2 c1 b1 HRA.out
      have hs2 := run_string w1 A2 n2 c2 b1 HRB.out
      generalize (⟨b1.toArray⟩ : ByteArray) = S at hs1 hs2
      go_wp2_with fail
      obtain ⟨X, hX⟩ : ∃ X, bcells (Sha.sum b1) = X := ⟨_, rfl⟩
      have HX := Lib.hid hX
      have heq := fun w => run_eq25 b1 b1 w
      rw [beq_self_eq_true, hX] at heq
      clear hX hs1 hs2
      have hbpw3 : Below w1.heap.size w1 (w1.alloc (.cells #[.slice A1 n2 c1] 22)) := HBB.out.alloc HBB.out.size _
      refine (sum_as _ 1 1 [b1] b1 (List.append_nil b1) _ (parts_one w1 22 A1 n2 c1 b1 (HRA.out.below HBB.out) (by omega) (by omega)) (by omega) (tab_below HTB.out hbpw3 hwb) (by have := HBB.out.size; simp; omega)).mono ?_
      rintro e w3 ⟨rfl, hbw3⟩
      have HB3 := Lib.hid (hbpw3.trans (hbw3.mono hbpw3.size))
      clear hbpw3 hbw3
      rw [HX.out]
      go_wp2_with fail
      have hbpw4 : Below w1.heap.size w1 (w3.alloc (.cells #[.slice none 0 0, .slice A1 n2 c1, .slice none 0 0] 22)) := HB3.out.alloc HB3.out.size _
      refine (sum_as _ 3 3 [[], b1, []] b1 (by simp) _ (parts_three w3 22 none A1 none 0 n2 0 0 c1 0 [] b1 [] (reads_nil _) (HRA.out.below HB3.out) (reads_nil _) (by omega) (by omega) (by omega) (by omega) (by omega) (by omega)) (by omega) (tab_below HTB.out hbpw4 hwb) (by have := HB3.out.size; simp; omega)).mono ?_
      rintro e w4 ⟨rfl, hbw4⟩
      have HB4 := Lib.hid (hbpw4.trans (hbw4.mono hbpw4.size))
      clear hbpw4 hbw4
      rw [HX.out]
      go_wp2_with fail
      have hbpw5 : Below w1.heap.size w1 (w4.alloc (.cells #[.slice A1 n2 c1] 22)) := HB4.out.alloc HB4.out.size _
      refine (sum_as _ 1 1 [b1] b1 (List.append_nil b1) _ (parts_one w4 22 A1 n2 c1 b1 (HRA.out.below HB4.out) (by omega) (by omega)) (by omega) (tab_below HTB.out hbpw5 hwb) (by have := HB4.out.size; simp; omega)).mono ?_
      rintro e w5 ⟨rfl, hbw5⟩
      have HB5 := Lib.hid (hbpw5.trans (hbw5.mono hbpw5.size))
      clear hbpw5 hbw5
      rw [HX.out]
      go_wp2_with fail
      have hbpw6 : Below w1.heap.size w1 (w5.alloc (.cells #[.slice A2 n2 c2] 22)) := HB5.out.alloc HB5.out.size _
      refine (sum_as _ 1 1 [b1] b1 (List.append_nil b1) _ (parts_one w5 22 A2 n2 c2 b1 (HRB.out.below HB5.out) (by omega) (by omega)) (by omega) (tab_below HTB.out hbpw6 hwb) (by have := HB5.out.size; simp; omega)).mono ?_
      rintro e w6 ⟨rfl, hbw6⟩
      have HB6 := Lib.hid (hbpw6.trans (hbw6.mono hbpw6.size))
      clear hbpw6 hbw6
      rw [HX.out]
      go_wp2_with fail
      go_ret
      exact ⟨rfl, HB1.out.trans (HB6.out.mono HB1.out.size)⟩
    · have hs1 := run_string w1 A1 n1 c1 b1 HRA.out
      have hs2 := run_string w1 A2 n2 c2 b2 HRB.out
      have hne : ((⟨b1.toArray⟩ : ByteArray).toList == (⟨b2.toArray⟩ : ByteArray).toList) = false := by
        rw [beq_eq_false_iff_ne, ByteArray.toList_eq, ByteArray.toList_eq]
        exact hal
      generalize (⟨b1.toArray⟩ : ByteArray) = S at hs1 hne
      generalize (⟨b2.toArray⟩ : ByteArray) = S2 at hs2 hne
      go_wp2_with fail
      obtain ⟨X, hX⟩ : ∃ X, bcells (Sha.sum b1) = X := ⟨_, rfl⟩
      obtain ⟨Y, hY⟩ : ∃ Y, bcells (Sha.sum b2) = Y := ⟨_, rfl⟩
      have HX := Lib.hid hX
      have HY := Lib.hid hY
      have heq := fun w => run_eq25 b1 b1 w
      rw [beq_self_eq_true, hX] at heq
      have heq2 := fun w => run_eq25 b1 b2 w
      rw [hX, hY] at heq2
      clear hX hY hs1 hs2 hne
      have hbpw3 : Below w1.heap.size w1 (w1.alloc (.cells #[.slice A1 n1 c1] 22)) := HBB.out.alloc HBB.out.size _
      refine (sum_as _ 1 1 [b1] b1 (List.append_nil b1) _ (parts_one w1 22 A1 n1 c1 b1 (HRA.out.below HBB.out) (by omega) (by omega)) (by omega) (tab_below HTB.out hbpw3 hwb) (by have := HBB.out.size; simp; omega)).mono ?_
      rintro e w3 ⟨rfl, hbw3⟩
      have HB3 := Lib.hid (hbpw3.trans (hbw3.mono hbpw3.size))
      clear hbpw3 hbw3
      rw [HX.out]
      go_wp2_with fail
      have hbpw4 : Below w1.heap.size w1 (w3.alloc (.cells #[.slice none 0 0, .slice A1 n1 c1, .slice none 0 0] 22)) := HB3.out.alloc HB3.out.size _
      refine (sum_as _ 3 3 [[], b1, []] b1 (by simp) _ (parts_three w3 22 none A1 none 0 n1 0 0 c1 0 [] b1 [] (reads_nil _) (HRA.out.below HB3.out) (reads_nil _) (by omega) (by omega) (by omega) (by omega) (by omega) (by omega)) (by omega) (tab_below HTB.out hbpw4 hwb) (by have := HB3.out.size; simp; omega)).mono ?_
      rintro e w4 ⟨rfl, hbw4⟩
      have HB4 := Lib.hid (hbpw4.trans (hbw4.mono hbpw4.size))
      clear hbpw4 hbw4
      rw [HX.out]
      go_wp2_with fail
      have hbpw5 : Below w1.heap.size w1 (w4.alloc (.cells #[.slice A1 n1 c1] 22)) := HB4.out.alloc HB4.out.size _
      refine (sum_as _ 1 1 [b1] b1 (List.append_nil b1) _ (parts_one w4 22 A1 n1 c1 b1 (HRA.out.below HB4.out) (by omega) (by omega)) (by omega) (tab_below HTB.out hbpw5 hwb) (by have := HB4.out.size; simp; omega)).mono ?_
      rintro e w5 ⟨rfl, hbw5⟩
      have HB5 := Lib.hid (hbpw5.trans (hbw5.mono hbpw5.size))
      clear hbpw5 hbw5
      rw [HX.out]
      go_wp2_with fail
      have hbpw6 : Below w1.heap.size w1 (w5.alloc (.cells #[.slice A2 n2 c2] 22)) := HB5.out.alloc HB5.out.size _
      refine (sum_as _ 1 1 [b2] b2 (List.append_nil b2) _ (parts_one w5 22 A2 n2 c2 b2 (HRB.out.below HB5.out) (by omega) (by omega)) (by omega) (tab_below HTB.out hbpw6 hwb) (by have := HB5.out.size; simp; omega)).mono ?_
      rintro e w6 ⟨rfl, hbw6⟩
      have HB6 := Lib.hid (hbpw6.trans (hbw6.mono hbpw6.size))
      clear hbpw6 hbw6
      rw [HY.out]
      by_cases hsum : Sha.sum b1 = Sha.sum b2
      · have hbq : (Sha.sum b1 == Sha.sum b2) = true := by rw [beq_iff_eq]; exact hsum
        simp only [hbq] at heq2
        clear hbq
        go_wp2_with fail
        have hbp7 : Below w1.heap.size w1 (w6.alloc (.cells #[.slice A1 n1 c1, .slice A2 n2 c2] 22)) := HB6.out.alloc HB6.out.size _
        refine (clash_two _ w6.heap.size 22 A1 A2 n1 n2 c1 c2 b1 b2 (HRA.out.below hbp7) (HRB.out.below hbp7) (by omega) (by omega) hal hsum (Whole.made _ _ _) (tab0_below HTB0.out hbp7 hwb) (by have := HB6.out.size; simp; omega)).mono ?_
        rintro e w7 ⟨rfl, hb7⟩
        have HB7 := Lib.hid (hbp7.trans (hb7.mono hbp7.size))
        clear hbp7 hb7
        go_wp2_with fail
        go_ret
        exact ⟨rfl, HB1.out.trans (HB7.out.mono HB1.out.size)⟩
      · have hbq : (Sha.sum b1 == Sha.sum b2) = false := by rw [beq_eq_false_iff_ne]; exact hsum
        simp only [hbq] at heq2
        clear hbq
        go_wp2_with fail
        go_ret
        exact ⟨rfl, HB1.out.trans (HB6.out.mono HB1.out.size)⟩
end Go.Proofs.YtpaciildaanfbaaDoor
