/-
  What the statement's function ShaSums returns: true, whatever three slices of bytes come in; conditions: they are read, and the two tables hold their words. It only makes memory of its own.
-/
import Derived.Test.YtpaciildaanfbaaDoorHelp
namespace Go.Proofs.YtpaciildaanfbaaDoor
open Go.RowKit

set_option maxRecDepth 100000 in
set_option maxHeartbeats 1000000 in
theorem sums_any (A1 A2 A3 : Option Addr) (n1 n2 n3 c1 c2 c3 : Nat) (b1 b2 b3 : List UInt8) (w : World) (hr1 : Reads w A1 n1 b1) (hr2 : Reads w A2 n2 b2) (hr3 : Reads w A3 n3 b3)
    (k1 : n1 ≤ c1) (k2 : n2 ≤ c2) (k3 : n3 ≤ c3) (m1 : n1 ≤ 9223372036854775807) (m2 : n2 ≤ 9223372036854775807) (m3 : n3 ≤ 9223372036854775807) (ht : Tab w 1) (ht0 : Tab w 0) (hw : 1 < w.heap.size) :
    Calls Tryd.prog 3 #[.slice A1 n1 c1, .slice A2 n2 c2, .slice A3 n3 c3] w fun e w' => e = .returned (.bool true) ∧ Below w.heap.size w w' := by
  have HR1 := Lib.hid hr1
  have HR2 := Lib.hid hr2
  have HR3 := Lib.hid hr3
  have HT := Lib.hid ht
  have HT0 := Lib.hid ht0
  clear hr1 hr2 hr3 ht ht0
  go_enter Tryd.func3, Tryd.ntmps3
  go_wp2_with fail
  refine (awake_any w HT.out hw).mono ?_
  rintro e w1 ⟨rfl, hb1⟩
  by_cases h1000 : 1000 < n1
  · go_wp2_with fail
    go_ret
    exact ⟨rfl, hb1⟩
  by_cases h1001 : 1000 < n2
  · go_wp2_with fail
    go_ret
    exact ⟨rfl, hb1⟩
  by_cases h1002 : 1000 < n3
  · go_wp2_with fail
    go_ret
    exact ⟨rfl, hb1⟩
  have q1 : decide (1000 < (n1 : Int)) = false := by simp; omega
  have q2 : decide (1000 < (n2 : Int)) = false := by simp; omega
  have q3 : decide (1000 < (n3 : Int)) = false := by simp; omega
  go_wp2_with fail
  have hbp : Below w.heap.size w (w1.alloc (.cells #[.slice A1 n1 c1, .slice A2 n2 c2, .slice A3 n3 c3] 22)) := hb1.alloc hb1.size _
  refine (sum_as _ 3 3 [b1, b2, b3] (b1 ++ (b2 ++ b3)) (by simp) _ (parts_three w1 22 A1 A2 A3 n1 n2 n3 c1 c2 c3 b1 b2 b3 (HR1.out.below hb1) (HR2.out.below hb1) (HR3.out.below hb1) k1 k2 k3 (by omega) (by omega) (by omega)) (by omega) (tab_below HT.out hbp hw) (by have := hb1.size; simp; omega)).mono ?_
  rintro e w2 ⟨rfl, hb2⟩
  have hb2' : Below w.heap.size w w2 := hbp.trans (hb2.mono hbp.size)
  clear hb1 hb2 hbp
  obtain ⟨X, hX⟩ : ∃ X, bcells (Sha.sum (b1 ++ (b2 ++ b3))) = X := ⟨_, rfl⟩
  rw [hX]
  have HX := Lib.hid hX
  clear hX
  simp only []
  iterate 7 go_step
  have hs2 := hb2'.size
  have hbE : Below w.heap.size w (w2.alloc (.cells #[] 5)) := hb2'.alloc hs2 _
  refine wpList_append_reads rfl (.tmp 27) (.tmp 28) rfl w2.heap.size _ 0 [] rfl (World.ownsRow_lit w2 #[] 0 (Nat.le_refl _) (by unfold maxLen; omega) rfl) A1 n1 c1 b1 rfl (HR1.out.below hbE) (by omega) (by simp) ?_
  intro v3 w3 hown3 hg3 _
  have hb3 : Below w.heap.size w w3 := hbE.grown hg3 (by simp; omega) (fun k hk => by have hk' : some w2.heap.size = some k := hk; injection hk' with hk'; omega)
  have hs3 : w2.heap.size ≤ w3.heap.size := by have := hg3.size; simp at this; omega
  clear hg3 hbE hb2'
  go_simp
  iterate 3 go_step
  refine wpList_append_reads rfl (.tmp 29) (.tmp 30) rfl w2.heap.size _ (0 + n1) _ rfl hown3 A2 n2 c2 b2 rfl (HR2.out.below hb3) (by omega) hs3 ?_
  intro v4 w4 hown4 hg4 _
  have hb4 : Below w.heap.size w w4 := hb3.grown hg4 hb3.size (fun k hk => Nat.le_trans hs2 (hown3.lt k hk).1)
  have hs4 : w2.heap.size ≤ w4.heap.size := Nat.le_trans hs3 hg4.size
  clear hg4 hown3 hb3
  go_simp
  iterate 3 go_step
  refine wpList_append_reads rfl (.tmp 31) (.tmp 32) rfl w2.heap.size _ (0 + n1 + n2) _ rfl hown4 A3 n3 c3 b3 rfl (HR3.out.below hb4) (by omega) hs4 ?_
  intro v5 w5 hown5 hg5 _
  have hb5 : Below w.heap.size w w5 := hb4.grown hg5 hb4.size (fun k hk => Nat.le_trans hs2 (hown4.lt k hk).1)
  rw [List.nil_append, List.append_assoc, ← List.map_append, ← List.map_append, Nat.zero_add] at hown5
  obtain ⟨A5, c5, rfl, hr5⟩ := reads_own hown5
  have HR5 := Lib.hid hr5
  have HB5 := Lib.hid hb5
  clear hg5 hown4 hown5 hb4 hb5 hr5
  go_simp
  go_wp2_with fail
  refine (ref_any A5 (n1 + n2 + n3) c5 (b1 ++ (b2 ++ b3)) w5 HR5.out (by omega) (tab0_below HT0.out HB5.out hw) (by have := HB5.out.size; omega)).mono ?_
  rintro e w6 ⟨rfl, hb6⟩
  rw [HX.out]
  have heq := fun w => run_eq25 (b1 ++ (b2 ++ b3)) (b1 ++ (b2 ++ b3)) w
  rw [beq_self_eq_true, HX.out] at heq
  have HB6 := Lib.hid (HB5.out.trans (hb6.mono HB5.out.size))
  clear hb6
  go_wp2_with fail
  go_ret
  exact ⟨rfl, HB6.out⟩
end Go.Proofs.YtpaciildaanfbaaDoor
