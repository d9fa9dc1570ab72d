/-
  What parcel's ReadAck returns: the answer that is read of the bytes' fields, or the first fault; conditions: the bytes are read, no more than a million. It only makes memory of its own.
-/
import Derived.Test.YtjepbnhlnomhlaaReadP
namespace Go.Proofs.Ytjepbnhlnomhlaa
open Go.RowKit

def ReadAPost (w : World) (r : Nat × (Bool × Nat)) (e : Ending) (w' : World) : Prop :=
  ∃ ok k, e = .returned (.tuple #[.agg (acells ok k), .int .i64 r.1]) ∧ (r.1 = 0 → ok = r.2.1 ∧ k = r.2.2) ∧ Below w.heap.size w w'
theorem acells_one (ok : Bool) (k : Nat) : (acells ok k).all (·.oneCell') = true := by
  simp [acells, Value.oneCell']
theorem rend_refused (s : Tlv.St) : Tlv.rend (Tlv.refuse true 2 s) ≠ 0 := fun h => by
  have z := Tlv.rend_zero h
  have c : (Tlv.refuse true 2 s).2 = 0 := by rw [z]
  have := (Tlv.refuse_zero (by omega) c).1
  cases this

set_option maxRecDepth 100000 in
set_option maxHeartbeats 1000000 in
theorem readAck_any (A : Option Addr) (n c : Nat) (bs : List UInt8) (w : World) (hr : Rd w w.heap.size A n bs) (hnc : n ≤ c) (hn : n ≤ 1000000) :
    Calls Try.prog 11 #[.slice A n c] w (ReadAPost w (Tlv.readA (st0 bs))) := by
  have HR := Lib.hid hr
  clear hr
  have hw0 : Whole (w.alloc (.cells (acells false 0) 27)) w.heap.size 27 (acells false 0) := Whole.made w 27 _
  have hb0 : Below w.heap.size w (w.alloc (.cells (acells false 0) 27)) := (Below.refl _ _).alloc (Nat.le_refl _) _
  have hs0 : (w.alloc (.cells (acells false 0) 27)).heap.size = w.heap.size + 1 := size_alloc _ _
  have HP := Lib.hid (open_any A n c bs (w.alloc (.cells (acells false 0) 27)) ((HR.out.below hb0 (Nat.le_refl _)).more hb0.size) hnc hn)
  have HH := Lib.hid (And.intro hw0 (And.intro hb0 hs0))
  clear hw0 hb0 hs0
  obtain ⟨s0, hs0⟩ : ∃ s, st0 bs = s := ⟨_, rfl⟩
  obtain ⟨⟨n1, s1⟩, h1⟩ : ∃ x, Tlv.rnum 1 s0 = x := ⟨_, rfl⟩
  obtain ⟨⟨n2, s2⟩, h2⟩ : ∃ x, Tlv.rnum 2 s1 = x := ⟨_, rfl⟩
  obtain ⟨b, hbb⟩ : ∃ x, Tlv.ackBad n1 n2 = x := ⟨_, rfl⟩
  obtain ⟨s3, h3⟩ : ∃ x, Tlv.refuse b 2 s2 = x := ⟨_, rfl⟩
  obtain ⟨k, hk⟩ : ∃ k, Tlv.rend s3 = k := ⟨_, rfl⟩
  have hRR : Tlv.readA (st0 bs) = (k, (decide (n1 = 1), n2)) := by
    unfold Tlv.readA
    simp only [hs0, h1, h2, hbb, h3, hk]
  rw [hRR]
  rw [hs0] at HP
  have H1 := Lib.hid h1
  have H2 := Lib.hid h2
  have HBB := Lib.hid hbb
  have H3 := Lib.hid h3
  have HKK := Lib.hid hk
  clear hRR hs0 h1 h2 h3 hk hbb
  go_enter Try.func11, Try.ntmps11
  go_upto_region 1 with (fail)
  have hun : w.alloc (.cells #[.bool false, .int .i64 0] 27) = w.alloc (.cells (acells false 0) 27) := rfl
  rw [hun]
  clear hun
  generalize w.alloc (.cells (acells false 0) 27) = w0 at *
  go_wp2_with fail
  refine HP.out.mono ?_
  rintro e w1 ⟨g, rfl, hrd, hgl, hsz, hb⟩
  obtain ⟨hw0, hb0, hs0⟩ := HH.out
  have hw1 := hw0.below hb hw0.lt
  have hb1 := hb0.trans (hb.mono hb0.size)
  have hlo : w.heap.size < g := by omega
  have Z1 := Lib.hid (And.intro hw1 (And.intro hb1 hrd))
  clear hw0 hb0 hs0 hb hw1 hb1 hrd HP HH hgl hsz
  have HP := Lib.hid (number_any g s0 1 1 (by decide) w1 Z1.out.2.2)
  rw [H1.out] at HP
  go_wp2_with fail
  refine HP.out.mono ?_
  rintro e w2 ⟨rfl, hrd, hon, hsz⟩
  have Z2 := Lib.hid (And.intro (hon.whole Z1.out.1 (by omega)) (And.intro (Z1.out.2.1.trans (hon.below Z1.out.2.1.size (by omega))) hrd))
  clear HP hrd hon Z1 hsz
  have HP := Lib.hid (number_any g s1 2 2 (by decide) w2 Z2.out.2.2)
  rw [H2.out] at HP
  go_wp2_with fail
  refine HP.out.mono ?_
  rintro e w3 ⟨rfl, hrd, hon, hsz⟩
  have Z3 := Lib.hid (And.intro (hon.whole Z2.out.1 (by omega)) (And.intro (Z2.out.2.1.trans (hon.below Z2.out.2.1.size (by omega))) hrd))
  clear HP hrd hon Z2 hsz
  by_cases c1 : 1 < n1
  · have q1 : decide (1 < (n1 : Int)) = true := by simp; omega
    have hbv : b = true := by
      rw [← HBB.out]
      unfold Tlv.ackBad
      simp <;> omega
    subst hbv
    have HP := Lib.hid (refuse_any g s2 true 2 2 rfl w3 Z3.out.2.2)
    rw [H3.out] at HP
    go_wp2_with fail
    refine HP.out.mono ?_
    rintro e w4 ⟨rfl, hrd, hon, hsz⟩
    have Z4 := Lib.hid (And.intro (hon.whole Z3.out.1 (by omega)) (And.intro (Z3.out.2.1.trans (hon.below Z3.out.2.1.size (by omega))) hrd))
    clear HP hrd hon Z3 hsz
    have HP := Lib.hid (end_any g s3 w4 Z4.out.2.2)
    rw [HKK.out] at HP
    go_wp2_with fail
    refine HP.out.mono ?_
    rintro e w5 ⟨rfl, hon, hsz⟩
    have HE := Lib.hid (And.intro (hon.whole Z4.out.1 (by omega)) (Z4.out.2.1.trans (hon.below Z4.out.2.1.size (by omega))))
    clear HP hon hsz Z4
    have hk0 : k ≠ 0 := by rw [← HKK.out, ← H3.out]; exact rend_refused s2
    have q9 : ((k : Int) == 0) = false := by simp; omega
    have HK0 := Lib.hid hk0
    clear hk0
    go_upto_region 7 with (fail)
    refine wp_region_lit ?_
    iterate 6 go_step
    refine wpList_store_mid rfl 27 (.tmp 2) (.tmp 33) rfl w.heap.size 0 (acells false 0) rfl rfl HE.out.1.there_ info27 (acells_one _ _) ?_
    have HW := Lib.hid (HE.out.1.setAll (vs := acells false 0) rfl)
    have HB := Lib.hid (below_setCells w w.heap.size (acells false 0).toList 0 HE.out.2 (Nat.le_refl _))
    generalize w5.setCells w.heap.size 0 (acells false 0).toList = w6 at *
    go_wp2_with fail
    refine bodyPost_ret (results_cell2 Try.results11 _ _ _ ⟨w.heap.size, 0, none⟩ _ rfl (load_whole HW.out 27 _ Try.underlying27 rfl info27)) rfl ⟨false, 0, rfl, fun h0 => absurd h0 HK0.out, HB.out⟩
  have q1 : decide (1 < (n1 : Int)) = false := by simp; omega
  by_cases c2 : 2147483648 < n2
  · have q2 : decide (2147483648 < (n2 : Int)) = true := by simp; omega
    have hbv : b = true := by
      rw [← HBB.out]
      unfold Tlv.ackBad
      simp <;> omega
    subst hbv
    have HP := Lib.hid (refuse_any g s2 true 2 2 rfl w3 Z3.out.2.2)
    rw [H3.out] at HP
    go_wp2_with fail
    refine HP.out.mono ?_
    rintro e w4 ⟨rfl, hrd, hon, hsz⟩
    have Z4 := Lib.hid (And.intro (hon.whole Z3.out.1 (by omega)) (And.intro (Z3.out.2.1.trans (hon.below Z3.out.2.1.size (by omega))) hrd))
    clear HP hrd hon Z3 hsz
    have HP := Lib.hid (end_any g s3 w4 Z4.out.2.2)
    rw [HKK.out] at HP
    go_wp2_with fail
    refine HP.out.mono ?_
    rintro e w5 ⟨rfl, hon, hsz⟩
    have HE := Lib.hid (And.intro (hon.whole Z4.out.1 (by omega)) (Z4.out.2.1.trans (hon.below Z4.out.2.1.size (by omega))))
    clear HP hon hsz Z4
    have hk0 : k ≠ 0 := by rw [← HKK.out, ← H3.out]; exact rend_refused s2
    have q9 : ((k : Int) == 0) = false := by simp; omega
    have HK0 := Lib.hid hk0
    clear hk0
    go_upto_region 7 with (fail)
    refine wp_region_lit ?_
    iterate 6 go_step
    refine wpList_store_mid rfl 27 (.tmp 2) (.tmp 33) rfl w.heap.size 0 (acells false 0) rfl rfl HE.out.1.there_ info27 (acells_one _ _) ?_
    have HW := Lib.hid (HE.out.1.setAll (vs := acells false 0) rfl)
    have HB := Lib.hid (below_setCells w w.heap.size (acells false 0).toList 0 HE.out.2 (Nat.le_refl _))
    generalize w5.setCells w.heap.size 0 (acells false 0).toList = w6 at *
    go_wp2_with fail
    refine bodyPost_ret (results_cell2 Try.results11 _ _ _ ⟨w.heap.size, 0, none⟩ _ rfl (load_whole HW.out 27 _ Try.underlying27 rfl info27)) rfl ⟨false, 0, rfl, fun h0 => absurd h0 HK0.out, HB.out⟩
  have q2 : decide (2147483648 < (n2 : Int)) = false := by simp; omega
  rcases (show n1 = 0 ∨ n1 = 1 by omega) with rfl | rfl
  · rcases Nat.eq_zero_or_pos n2 with rfl | c3
    · have hbv : b = true := by
        rw [← HBB.out]
        unfold Tlv.ackBad
        simp <;> omega
      subst hbv
      have HP := Lib.hid (refuse_any g s2 true 2 2 rfl w3 Z3.out.2.2)
      rw [H3.out] at HP
      go_wp2_with fail
      refine HP.out.mono ?_
      rintro e w4 ⟨rfl, hrd, hon, hsz⟩
      have Z4 := Lib.hid (And.intro (hon.whole Z3.out.1 (by omega)) (And.intro (Z3.out.2.1.trans (hon.below Z3.out.2.1.size (by omega))) hrd))
      clear HP hrd hon Z3 hsz
      have HP := Lib.hid (end_any g s3 w4 Z4.out.2.2)
      rw [HKK.out] at HP
      go_wp2_with fail
      refine HP.out.mono ?_
      rintro e w5 ⟨rfl, hon, hsz⟩
      have HE := Lib.hid (And.intro (hon.whole Z4.out.1 (by omega)) (Z4.out.2.1.trans (hon.below Z4.out.2.1.size (by omega))))
      clear HP hon hsz Z4
      have hk0 : k ≠ 0 := by rw [← HKK.out, ← H3.out]; exact rend_refused s2
      have q9 : ((k : Int) == 0) = false := by simp; omega
      have HK0 := Lib.hid hk0
      clear hk0
      go_upto_region 7 with (fail)
      refine wp_region_lit ?_
      iterate 6 go_step
      refine wpList_store_mid rfl 27 (.tmp 2) (.tmp 33) rfl w.heap.size 0 (acells false 0) rfl rfl HE.out.1.there_ info27 (acells_one _ _) ?_
      have HW := Lib.hid (HE.out.1.setAll (vs := acells false 0) rfl)
      have HB := Lib.hid (below_setCells w w.heap.size (acells false 0).toList 0 HE.out.2 (Nat.le_refl _))
      generalize w5.setCells w.heap.size 0 (acells false 0).toList = w6 at *
      go_wp2_with fail
      refine bodyPost_ret (results_cell2 Try.results11 _ _ _ ⟨w.heap.size, 0, none⟩ _ rfl (load_whole HW.out 27 _ Try.underlying27 rfl info27)) rfl ⟨false, 0, rfl, fun h0 => absurd h0 HK0.out, HB.out⟩
    · have q3 : ((n2 : Int) == 0) = false := by simp; omega
      have hbv : b = false := by
        rw [← HBB.out]
        unfold Tlv.ackBad
        simp <;> omega
      subst hbv
      have HP := Lib.hid (refuse_any g s2 false 2 2 rfl w3 Z3.out.2.2)
      rw [H3.out] at HP
      go_wp2_with fail
      refine HP.out.mono ?_
      rintro e w4 ⟨rfl, hrd, hon, hsz⟩
      have Z4 := Lib.hid (And.intro (hon.whole Z3.out.1 (by omega)) (And.intro (Z3.out.2.1.trans (hon.below Z3.out.2.1.size (by omega))) hrd))
      clear HP hrd hon Z3 hsz
      have HP := Lib.hid (end_any g s3 w4 Z4.out.2.2)
      rw [HKK.out] at HP
      go_wp2_with fail
      refine HP.out.mono ?_
      rintro e w5 ⟨rfl, hon, hsz⟩
      have HE := Lib.hid (And.intro (hon.whole Z4.out.1 (by omega)) (Z4.out.2.1.trans (hon.below Z4.out.2.1.size (by omega))))
      clear HP hon hsz Z4
      by_cases hk0 : k = 0
      · subst hk0
        go_upto_region 8 with (fail)
        refine wp_region_lit ?_
        iterate 15 go_step
        refine wpList_store_mid rfl 27 (.tmp 2) (.tmp 39) rfl w.heap.size 0 (acells false n2) rfl rfl HE.out.1.there_ info27 (acells_one _ _) ?_
        have HW := Lib.hid (HE.out.1.setAll (vs := acells false n2) rfl)
        have HB := Lib.hid (below_setCells w w.heap.size (acells false n2).toList 0 HE.out.2 (Nat.le_refl _))
        generalize w5.setCells w.heap.size 0 (acells false n2).toList = w6 at *
        go_wp2_with fail
        refine bodyPost_ret (results_cell2 Try.results11 _ _ _ ⟨w.heap.size, 0, none⟩ _ rfl (load_whole HW.out 27 _ Try.underlying27 rfl info27)) rfl ⟨false, n2, rfl, fun _ => ⟨rfl, rfl⟩, HB.out⟩
      · have q9 : ((k : Int) == 0) = false := by simp; omega
        have HK0 := Lib.hid hk0
        clear hk0
        go_upto_region 7 with (fail)
        refine wp_region_lit ?_
        iterate 6 go_step
        refine wpList_store_mid rfl 27 (.tmp 2) (.tmp 33) rfl w.heap.size 0 (acells false 0) rfl rfl HE.out.1.there_ info27 (acells_one _ _) ?_
        have HW := Lib.hid (HE.out.1.setAll (vs := acells false 0) rfl)
        have HB := Lib.hid (below_setCells w w.heap.size (acells false 0).toList 0 HE.out.2 (Nat.le_refl _))
        generalize w5.setCells w.heap.size 0 (acells false 0).toList = w6 at *
        go_wp2_with fail
        refine bodyPost_ret (results_cell2 Try.results11 _ _ _ ⟨w.heap.size, 0, none⟩ _ rfl (load_whole HW.out 27 _ Try.underlying27 rfl info27)) rfl ⟨false, 0, rfl, fun h0 => absurd h0 HK0.out, HB.out⟩
  · rcases Nat.eq_zero_or_pos n2 with rfl | c3
    · have hbv : b = false := by
        rw [← HBB.out]
        unfold Tlv.ackBad
        simp <;> omega
      subst hbv
      have HP := Lib.hid (refuse_any g s2 false 2 2 rfl w3 Z3.out.2.2)
      rw [H3.out] at HP
      go_wp2_with fail
      refine HP.out.mono ?_
      rintro e w4 ⟨rfl, hrd, hon, hsz⟩
      have Z4 := Lib.hid (And.intro (hon.whole Z3.out.1 (by omega)) (And.intro (Z3.out.2.1.trans (hon.below Z3.out.2.1.size (by omega))) hrd))
      clear HP hrd hon Z3 hsz
      have HP := Lib.hid (end_any g s3 w4 Z4.out.2.2)
      rw [HKK.out] at HP
      go_wp2_with fail
      refine HP.out.mono ?_
      rintro e w5 ⟨rfl, hon, hsz⟩
      have HE := Lib.hid (And.intro (hon.whole Z4.out.1 (by omega)) (Z4.out.2.1.trans (hon.below Z4.out.2.1.size (by omega))))
      clear HP hon hsz Z4
      by_cases hk0 : k = 0
      · subst hk0
        go_upto_region 8 with (fail)
        refine wp_region_lit ?_
        iterate 15 go_step
        refine wpList_store_mid rfl 27 (.tmp 2) (.tmp 39) rfl w.heap.size 0 (acells true 0) rfl rfl HE.out.1.there_ info27 (acells_one _ _) ?_
        have HW := Lib.hid (HE.out.1.setAll (vs := acells true 0) rfl)
        have HB := Lib.hid (below_setCells w w.heap.size (acells true 0).toList 0 HE.out.2 (Nat.le_refl _))
        generalize w5.setCells w.heap.size 0 (acells true 0).toList = w6 at *
        go_wp2_with fail
        refine bodyPost_ret (results_cell2 Try.results11 _ _ _ ⟨w.heap.size, 0, none⟩ _ rfl (load_whole HW.out 27 _ Try.underlying27 rfl info27)) rfl ⟨true, 0, rfl, fun _ => ⟨rfl, rfl⟩, HB.out⟩
      · have q9 : ((k : Int) == 0) = false := by simp; omega
        have HK0 := Lib.hid hk0
        clear hk0
        go_upto_region 7 with (fail)
        refine wp_region_lit ?_
        iterate 6 go_step
        refine wpList_store_mid rfl 27 (.tmp 2) (.tmp 33) rfl w.heap.size 0 (acells false 0) rfl rfl HE.out.1.there_ info27 (acells_one _ _) ?_
        have HW := Lib.hid (HE.out.1.setAll (vs := acells false 0) rfl)
        have HB := Lib.hid (below_setCells w w.heap.size (acells false 0).toList 0 HE.out.2 (Nat.le_refl _))
        generalize w5.setCells w.heap.size 0 (acells false 0).toList = w6 at *
        go_wp2_with fail
        refine bodyPost_ret (results_cell2 Try.results11 _ _ _ ⟨w.heap.size, 0, none⟩ _ rfl (load_whole HW.out 27 _ Try.underlying27 rfl info27)) rfl ⟨false, 0, rfl, fun h0 => absurd h0 HK0.out, HB.out⟩
    · have q3 : ((n2 : Int) == 0) = false := by simp; omega
      have hbv : b = true := by
        rw [← HBB.out]
        unfold Tlv.ackBad
        simp <;> omega
      subst hbv
      have HP := Lib.hid (refuse_any g s2 true 2 2 rfl w3 Z3.out.2.2)
      rw [H3.out] at HP
      go_wp2_with fail
      refine HP.out.mono ?_
      rintro e w4 ⟨rfl, hrd, hon, hsz⟩
      have Z4 := Lib.hid (And.intro (hon.whole Z3.out.1 (by omega)) (And.intro (Z3.out.2.1.trans (hon.below Z3.out.2.1.size (by omega))) hrd))
      clear HP hrd hon Z3 hsz
      have HP := Lib.hid (end_any g s3 w4 Z4.out.2.2)
      rw [HKK.out] at HP
      go_wp2_with fail
      refine HP.out.mono ?_
      rintro e w5 ⟨rfl, hon, hsz⟩
      have HE := Lib.hid (And.intro (hon.whole Z4.out.1 (by omega)) (Z4.out.2.1.trans (hon.below Z4.out.2.1.size (by omega))))
      clear HP hon hsz Z4
      have hk0 : k ≠ 0 := by rw [← HKK.out, ← H3.out]; exact rend_refused s2
      have q9 : ((k : Int) == 0) = false := by simp; omega
      have HK0 := Lib.hid hk0
      clear hk0
      go_upto_region 7 with (fail)
      refine wp_region_lit ?_
      iterate 6 go_step
      refine wpList_store_mid rfl 27 (.tmp 2) (.tmp 33) rfl w.heap.size 0 (acells false 0) rfl rfl HE.out.1.there_ info27 (acells_one _ _) ?_
      have HW := Lib.hid (HE.out.1.setAll (vs := acells false 0) rfl)
      have HB := Lib.hid (below_setCells w w.heap.size (acells false 0).toList 0 HE.out.2 (Nat.le_refl _))
      generalize w5.setCells w.heap.size 0 (acells false 0).toList = w6 at *
      go_wp2_with fail
      refine bodyPost_ret (results_cell2 Try.results11 _ _ _ ⟨w.heap.size, 0, none⟩ _ rfl (load_whole HW.out 27 _ Try.underlying27 rfl info27)) rfl ⟨false, 0, rfl, fun h0 => absurd h0 HK0.out, HB.out⟩
end Go.Proofs.Ytjepbnhlnomhlaa
