/-
  What the statement's function ParcelPackets returns: true, whatever packet comes in; conditions: its numbers have 64 bits, its texts are no longer than memory can be, the two tables hold their words. It only makes memory of its own.
-/
import Derived.Test.YtjepbnhlnomhlaaDoorAwake
import Derived.Test.YtjepbnhlnomhlaaDoorRefPacket
import Derived.Test.YtjepbnhlnomhlaaDoorCommit
namespace Go.Proofs.YtjepbnhlnomhlaaDoor
open Go.RowKit

theorem tab_kept {w w' : World} {g : Nat} (h : Sh.Tab w g) (hb : Below w.heap.size w w') (hg : g < w.heap.size) : Sh.Tab w' g := fun j hj => by
  rw [hb.cell (p := ⟨g, j, none⟩) hg]; exact h j hj

set_option maxRecDepth 100000 in
set_option maxHeartbeats 1000000 in
theorem packets_good (z : Int) (seq tm : Nat) (den : List UInt8) (amt : Nat) (frm dst : List UInt8) (w : World) (ch : Nat) (hz : z = ch) (hch : ch < 4) (hseq : seq < 18446744073709551616) (htm : tm < 18446744073709551616) (hamt : amt < 18446744073709551616)
    (ha : den.length ≤ 140737488355328) (hb : frm.length ≤ 140737488355328) (hc : dst.length ≤ 140737488355328) (ht : Sh.Tab w 1) (ht0 : Sh.Tab w 0) (hw : 1 < w.heap.size) :
    Calls Tryd.prog 3 #[.agg (pcells z seq tm den amt frm dst)] w fun e w' => e = .returned (.bool true) ∧ Below w.heap.size w w' := by
  have HZ := Lib.hid hz
  have HT := Lib.hid ht
  have HT0 := Lib.hid ht0
  have hz34 := zero34
  have hbel : Below w.heap.size w (w.alloc (.cells (pcells z seq tm den amt frm dst) 24)) := (Below.refl _ _).alloc (Nat.le_refl _) _
  have hw0 := Whole.made w 24 (pcells z seq tm den amt frm dst)
  have hs0 : w.heap.size < (w.alloc (.cells (pcells z seq tm den amt frm dst) 24)).heap.size := by simp
  obtain ⟨la, hla⟩ : ∃ n, den.length = n := ⟨_, rfl⟩
  obtain ⟨lb, hlb⟩ : ∃ n, frm.length = n := ⟨_, rfl⟩
  obtain ⟨lc, hlc⟩ : ∃ n, dst.length = n := ⟨_, rfl⟩
  rw [hla] at ha
  rw [hlb] at hb
  rw [hlc] at hc
  have HLEN := Lib.hid (And.intro hla (And.intro hlb hlc))
  have HB0 := Lib.hid hbel
  have HW0 := Lib.hid hw0
  clear hz ht ht0 hbel hw0 hla hlb hlc
  go_enter Tryd.func3, Tryd.ntmps3
  go_upto_region 1 with (fail)
  generalize w.alloc (.cells (pcells z seq tm den amt frm dst) 24) = w0 at *
  obtain ⟨g, hg⟩ : ∃ g, w.heap.size = g := ⟨_, rfl⟩
  rw [hg] at HW0 hs0 ⊢
  have HG := Lib.hid hg
  clear hg
  go_wp2_with fail
  refine (awake_any w0).mono ?_
  rintro e w1 ⟨rfl, hbb⟩
  have HB1 := Lib.hid (HB0.out.trans (hbb.mono HB0.out.size))
  have HW1 := Lib.hid (HW0.out.below hbb hs0)
  have hs1 : g < w1.heap.size := Nat.lt_of_lt_of_le hs0 hbb.size
  clear hbb HB0 HW0 hs0
  obtain ⟨c0, c1, c2, c3, c4, c5, c6⟩ := pbox HW1.out
  go_wp2_with fail
  refine (long_any z seq tm den amt frm dst w1 la lb lc HLEN.out.1 HLEN.out.2.1 HLEN.out.2.2 ha hb hc).mono ?_
  rintro e w2 ⟨rfl, hbb⟩
  have HB2 := Lib.hid (HB1.out.trans (hbb.mono HB1.out.size))
  have HW2 := Lib.hid (HW1.out.below hbb hs1)
  have hs2 : g < w2.heap.size := Nat.lt_of_lt_of_le hs1 hbb.size
  clear hbb HB1 HW1 hs1 c0 c1 c2 c3 c4 c5 c6
  by_cases h3000 : 3000 < la + lb + lc
  · go_wp2_with fail
    go_ret
    exact ⟨rfl, HB2.out⟩
  have l1 : den.length ≤ 65535 := by have := HLEN.out.1; omega
  have l2 : frm.length ≤ 65535 := by have := HLEN.out.2.1; omega
  have l3 : dst.length ≤ 65535 := by have := HLEN.out.2.2; omega
  have hl3 : den.length + frm.length + dst.length ≤ 3000 := by have := HLEN.out; omega
  have HL := Lib.hid (And.intro l1 (And.intro l2 (And.intro l3 hl3)))
  clear l1 l2 l3 hl3 HLEN
  have q : decide (3000 < la + lb + lc) = false := by simp; omega
  clear h3000
  obtain ⟨c0, c1, c2, c3, c4, c5, c6⟩ := pbox HW2.out
  have HPL := Lib.hid (pkt_len ch seq tm den amt frm dst hch hseq htm hamt)
  have HP := Lib.hid (packet_good z ch seq tm den amt frm dst w2 HZ.out hch hseq htm hamt HL.out.1 HL.out.2.1 HL.out.2.2.1)
  go_wp2_with fail
  refine HP.out.mono ?_
  rintro e w3 ⟨A1, n1, k1, rfl, hr, _, hbb⟩
  have HB3 := Lib.hid (HB2.out.trans (hbb.mono HB2.out.size))
  have HW3 := Lib.hid (HW2.out.below hbb hs2)
  have hs3 : g < w3.heap.size := Nat.lt_of_lt_of_le hs2 hbb.size
  have HR1 := Lib.hid hr
  clear hbb HB2 HW2 hs2 c0 c1 c2 c3 c4 c5 c6 hr HP q
  obtain ⟨c0, c1, c2, c3, c4, c5, c6⟩ := pbox HW3.out
  have HP := Lib.hid (refPacket_good z ch seq tm den amt frm dst w3 HZ.out hch hseq htm hamt HL.out.1 HL.out.2.1 HL.out.2.2.1)
  go_wp2_with fail
  refine HP.out.mono ?_
  rintro e w4 ⟨A2, n2, k2, rfl, hr, hbb⟩
  have HB4 := Lib.hid (HB3.out.trans (hbb.mono HB3.out.size))
  have HW4 := Lib.hid (HW3.out.below hbb hs3)
  have hs4 : g < w4.heap.size := Nat.lt_of_lt_of_le hs3 hbb.size
  have HR1' := Lib.hid ((HR1.out.below hbb (Nat.le_refl _)).more hbb.size)
  have HR2 := Lib.hid hr
  clear hbb HB3 HW3 hs3 c0 c1 c2 c3 c4 c5 c6 hr HP HR1
  obtain ⟨c0, c1, c2, c3, c4, c5, c6⟩ := pbox HW4.out
  have HP := Lib.hid (commit_good z ch seq tm den amt frm dst w4 HZ.out hch hseq htm hamt HL.out.1 HL.out.2.1 HL.out.2.2.1 (tab_kept HT.out HB4.out hw) (by have := HB4.out.size; omega))
  go_wp2_with fail
  refine HP.out.mono ?_
  rintro e w5 ⟨rfl, hbb⟩
  have HB5 := Lib.hid (HB4.out.trans (hbb.mono HB4.out.size))
  have HR1 := Lib.hid ((HR1'.out.below hbb (Nat.le_refl _)).more hbb.size)
  have HR2' := Lib.hid ((HR2.out.below hbb (Nat.le_refl _)).more hbb.size)
  clear hbb HB4 HW4 hs4 c0 c1 c2 c3 c4 c5 c6 HP HR1' HR2
  have HLS := Lib.hid (Sh.sum_length (pkt ch seq tm den amt frm dst))
  obtain ⟨S, hS⟩ : ∃ S, Sh.Sha.sum (pkt ch seq tm den amt frm dst) = S := ⟨_, rfl⟩
  rw [hS] at HLS ⊢
  have HS := Lib.hid hS
  clear hS
  obtain ⟨X, hX⟩ : ∃ X, bcells S = X := ⟨_, rfl⟩
  rw [hX]
  have HX := Lib.hid hX
  have HXS : Hid (X.size = 32) := Lib.hid (by rw [← hX, bcells_size]; exact HLS.out)
  have HX1 : Hid (X.all (·.oneCell') = true) := Lib.hid (by rw [← hX]; exact bcells_one S)
  clear hX
  simp only []
  iterate 13 go_step
  refine wpList_store_made rfl 34 (.tmp 7) (.tmp 27) rfl (zb 32) X rfl rfl (by rw [HXS.out]; exact info29) (by rw [zb_size, HXS.out]) HX1.out ?_
  have hbb : Below w5.heap.size w5 (w5.alloc (.cells X 34)) := (Below.refl _ _).alloc (Nat.le_refl _) _
  have HB6 := Lib.hid (HB5.out.trans (hbb.mono HB5.out.size))
  have HX6 := Lib.hid (Whole.made w5 34 X)
  have HR16 := Lib.hid ((HR1.out.below hbb (Nat.le_refl _)).more hbb.size)
  have HR26 := Lib.hid ((HR2'.out.below hbb (Nat.le_refl _)).more hbb.size)
  clear hbb HB5 HR1 HR2'
  generalize w5.alloc (.cells X 34) = w6 at *
  generalize w5.heap.size = b7 at *
  go_upto_region 8 with (fail)
  refine wp_region_lit ?_
  iterate 6 go_step
  refine wpList_store_made rfl 34 (.tmp 9) (.tmp 29) rfl (zb 32) (zb 32) rfl rfl (by rw [zb_size]; exact info29) rfl (bcells_one _) ?_
  have hbb : Below w6.heap.size w6 (w6.alloc (.cells (zb 32) 34)) := (Below.refl _ _).alloc (Nat.le_refl _) _
  have HB7 := Lib.hid (HB6.out.trans (hbb.mono HB6.out.size))
  have HX7 := Lib.hid (HX6.out.alloc (.cells (zb 32) 34))
  have HY7 := Lib.hid (Whole.made w6 34 (zb 32))
  have HRA := Lib.hid (HR16.out.below hbb (Nat.le_refl _))
  have HRB := Lib.hid (HR26.out.below hbb (Nat.le_refl _))
  have HR17 := Lib.hid ((HR16.out.below hbb (Nat.le_refl _)).more hbb.size)
  have HR27 := Lib.hid ((HR26.out.below hbb (Nat.le_refl _)).more hbb.size)
  have hne : b7 < w6.heap.size := HX6.out.lt
  have hge : w.heap.size ≤ w6.heap.size := HB6.out.size
  clear hbb HB6 HR16 HR26 HX6 hz34
  generalize w6.alloc (.cells (zb 32) 34) = w7 at *
  generalize w6.heap.size = b9 at *
  have hn2 : n2 ≤ 100000 := by rw [← HR27.out.len]; have := HPL.out; have := HL.out; omega
  have hp := Sh.ref_any A2 n2 k2 _ w7 (reads_of_rd HR27.out) hn2 (tab_kept HT0.out HB7.out (by omega)) (by have := HB7.out.size; omega)
  rw [HS.out, show Sh.bcells S = X from HX.out] at hp
  have HP := Lib.hid hp
  clear hp hn2
  go_wp2_with fail
  refine HP.out.mono ?_
  rintro e w8 ⟨rfl, hbb⟩
  have HB8 := Lib.hid (HB7.out.trans (hbb.mono HB7.out.size))
  have HX8 := Lib.hid (HX7.out.below hbb HX7.out.lt)
  have HY8 := Lib.hid (HY7.out.below hbb HY7.out.lt)
  have hlt9 : b9 < w7.heap.size := HY7.out.lt
  have HRA8 := Lib.hid (HRA.out.below hbb (Nat.le_of_lt hlt9))
  have HRB8 := Lib.hid (HRB.out.below hbb (Nat.le_of_lt hlt9))
  clear hbb HB7 HX7 HY7 HRA HRB HP HR17 HR27
  simp only []
  go_step
  refine wpList_store_mid rfl 34 (.tmp 9) (.tmp 33) rfl b9 0 X rfl rfl ?_ ?_ HX1.out ?_
  · have := HY8.out.there_
    rw [zb_size] at this
    rw [HXS.out]; exact this
  · rw [HXS.out]; exact info29
  have hbb := below_setCells (B := b9) w8 b9 X.toList 0 (Below.refl _ _) (Nat.le_refl _)
  have HB9 := Lib.hid (HB8.out.trans (hbb.mono hge))
  have HY9 := Lib.hid (HY8.out.setAll (vs := X) (by rw [zb_size, HXS.out]))
  have HX9 := Lib.hid (HX8.out.setOther (b := b9) (by omega) X.toList 0)
  have cv1 := run_string _ _ A1 n1 k1 _ (HRA8.out.below hbb (Nat.le_refl _))
  have cv2 := run_string _ _ A2 n2 k2 _ (HRB8.out.below hbb (Nat.le_refl _))
  clear hbb HB8 HX8 HY8 HRA8 HRB8
  generalize w8.setCells b9 0 X.toList = w9 at *
  go_upto_region 11 with (fail)
  refine wp_region_lit ?_
  iterate 40 go_step
  refine wpList_load_g rfl 34 (.tmp 7) rfl b7 rfl 34 X _ HX9.out Tryd.underlying34 rfl (by rw [HXS.out]; exact info29) ?_
  go_simp
  refine wpList_load_g rfl 34 (.tmp 9) rfl b9 rfl 34 X _ HY9.out Tryd.underlying34 rfl (by rw [HXS.out]; exact info29) ?_
  go_simp
  have heq := fun w => run_eq29 S S HLS.out HLS.out w
  rw [beq_self_eq_true, HX.out] at heq
  go_wp2_with fail
  go_ret
  exact ⟨rfl, by first | exact HB9.out | (rw [← HG.out]; exact HB9.out) | (rw [HG.out]; exact HB9.out)⟩

set_option maxRecDepth 100000 in
set_option maxHeartbeats 1000000 in
theorem packets_bad (z : Int) (seq tm : Nat) (den : List UInt8) (amt : Nat) (frm dst : List UInt8) (w : World) (hz : z < 0 ∨ 4 ≤ z)
    (ha : den.length ≤ 140737488355328) (hb : frm.length ≤ 140737488355328) (hc : dst.length ≤ 140737488355328) :
    Calls Tryd.prog 3 #[.agg (pcells z seq tm den amt frm dst)] w fun e w' => e = .returned (.bool true) ∧ Below w.heap.size w w' := by
  have HZ := Lib.hid hz
  have hz34 := zero34
  have hbel : Below w.heap.size w (w.alloc (.cells (pcells z seq tm den amt frm dst) 24)) := (Below.refl _ _).alloc (Nat.le_refl _) _
  have hw0 := Whole.made w 24 (pcells z seq tm den amt frm dst)
  have hs0 : w.heap.size < (w.alloc (.cells (pcells z seq tm den amt frm dst) 24)).heap.size := by simp
  obtain ⟨la, hla⟩ : ∃ n, den.length = n := ⟨_, rfl⟩
  obtain ⟨lb, hlb⟩ : ∃ n, frm.length = n := ⟨_, rfl⟩
  obtain ⟨lc, hlc⟩ : ∃ n, dst.length = n := ⟨_, rfl⟩
  rw [hla] at ha
  rw [hlb] at hb
  rw [hlc] at hc
  have HLEN := Lib.hid (And.intro hla (And.intro hlb hlc))
  have HB0 := Lib.hid hbel
  have HW0 := Lib.hid hw0
  clear hz hbel hw0 hla hlb hlc
  go_enter Tryd.func3, Tryd.ntmps3
  go_upto_region 1 with (fail)
  generalize w.alloc (.cells (pcells z seq tm den amt frm dst) 24) = w0 at *
  obtain ⟨g, hg⟩ : ∃ g, w.heap.size = g := ⟨_, rfl⟩
  rw [hg] at HW0 hs0 ⊢
  have HG := Lib.hid hg
  clear hg
  go_wp2_with fail
  refine (awake_any w0).mono ?_
  rintro e w1 ⟨rfl, hbb⟩
  have HB1 := Lib.hid (HB0.out.trans (hbb.mono HB0.out.size))
  have HW1 := Lib.hid (HW0.out.below hbb hs0)
  have hs1 : g < w1.heap.size := Nat.lt_of_lt_of_le hs0 hbb.size
  clear hbb HB0 HW0 hs0
  obtain ⟨c0, c1, c2, c3, c4, c5, c6⟩ := pbox HW1.out
  go_wp2_with fail
  refine (long_any z seq tm den amt frm dst w1 la lb lc HLEN.out.1 HLEN.out.2.1 HLEN.out.2.2 ha hb hc).mono ?_
  rintro e w2 ⟨rfl, hbb⟩
  have HB2 := Lib.hid (HB1.out.trans (hbb.mono HB1.out.size))
  have HW2 := Lib.hid (HW1.out.below hbb hs1)
  have hs2 : g < w2.heap.size := Nat.lt_of_lt_of_le hs1 hbb.size
  clear hbb HB1 HW1 hs1 c0 c1 c2 c3 c4 c5 c6
  by_cases h3000 : 3000 < la + lb + lc
  · go_wp2_with fail
    go_ret
    exact ⟨rfl, HB2.out⟩
  have l1 : den.length ≤ 65535 := by have := HLEN.out.1; omega
  have l2 : frm.length ≤ 65535 := by have := HLEN.out.2.1; omega
  have l3 : dst.length ≤ 65535 := by have := HLEN.out.2.2; omega
  have hl3 : den.length + frm.length + dst.length ≤ 3000 := by have := HLEN.out; omega
  have HL := Lib.hid (And.intro l1 (And.intro l2 (And.intro l3 hl3)))
  clear l1 l2 l3 hl3 HLEN
  have q : decide (3000 < la + lb + lc) = false := by simp; omega
  clear h3000
  obtain ⟨c0, c1, c2, c3, c4, c5, c6⟩ := pbox HW2.out
  have HP := Lib.hid (packet_bad z seq tm den amt frm dst w2 HZ.out)
  go_wp2_with fail
  refine HP.out.mono ?_
  rintro e w3 ⟨rfl, hbb⟩
  have HB3 := Lib.hid (HB2.out.trans (hbb.mono HB2.out.size))
  have HW3 := Lib.hid (HW2.out.below hbb hs2)
  have hs3 : g < w3.heap.size := Nat.lt_of_lt_of_le hs2 hbb.size
  clear hbb HB2 HW2 hs2 c0 c1 c2 c3 c4 c5 c6 HP q
  obtain ⟨c0, c1, c2, c3, c4, c5, c6⟩ := pbox HW3.out
  have HP := Lib.hid (refPacket_bad z seq tm den amt frm dst w3 HZ.out)
  go_wp2_with fail
  refine HP.out.mono ?_
  rintro e w4 ⟨rfl, hbb⟩
  have HB4 := Lib.hid (HB3.out.trans (hbb.mono HB3.out.size))
  have HW4 := Lib.hid (HW3.out.below hbb hs3)
  have hs4 : g < w4.heap.size := Nat.lt_of_lt_of_le hs3 hbb.size
  clear hbb HB3 HW3 hs3 c0 c1 c2 c3 c4 c5 c6 HP
  obtain ⟨c0, c1, c2, c3, c4, c5, c6⟩ := pbox HW4.out
  have HP := Lib.hid (commit_bad z seq tm den amt frm dst w4 HZ.out)
  go_wp2_with fail
  refine HP.out.mono ?_
  rintro e w5 ⟨rfl, hbb⟩
  have HB5 := Lib.hid (HB4.out.trans (hbb.mono HB4.out.size))
  clear hbb HB4 HW4 hs4 c0 c1 c2 c3 c4 c5 c6 HP
  simp only []
  iterate 13 go_step
  refine wpList_store_made rfl 34 (.tmp 7) (.tmp 27) rfl (zb 32) (zb 32) rfl rfl (by rw [zb_size]; exact info29) rfl (bcells_one _) ?_
  have hbb : Below w5.heap.size w5 (w5.alloc (.cells (zb 32) 34)) := (Below.refl _ _).alloc (Nat.le_refl _) _
  have HB6 := Lib.hid (HB5.out.trans (hbb.mono HB5.out.size))
  have HX6 := Lib.hid (Whole.made w5 34 (zb 32))
  clear hbb HB5
  generalize w5.alloc (.cells (zb 32) 34) = w6 at *
  generalize w5.heap.size = b7 at *
  go_upto_region 8 with (fail)
  refine wp_region_lit ?_
  iterate 6 go_step
  refine wpList_store_made rfl 34 (.tmp 9) (.tmp 29) rfl (zb 32) (zb 32) rfl rfl (by rw [zb_size]; exact info29) rfl (bcells_one _) ?_
  have hbb : Below w6.heap.size w6 (w6.alloc (.cells (zb 32) 34)) := (Below.refl _ _).alloc (Nat.le_refl _) _
  have HB9 := Lib.hid (HB6.out.trans (hbb.mono HB6.out.size))
  have HX9 := Lib.hid (HX6.out.alloc (.cells (zb 32) 34))
  have HY9 := Lib.hid (Whole.made w6 34 (zb 32))
  clear hbb HB6 HX6 hz34
  generalize w6.alloc (.cells (zb 32) 34) = w9 at *
  generalize w6.heap.size = b9 at *
  have cv1 := run_string w9 0 none 0 0 [] Rd.nil
  go_upto_region 11 with (fail)
  refine wp_region_lit ?_
  iterate 40 go_step
  refine wpList_load_g rfl 34 (.tmp 7) rfl b7 rfl 34 (zb 32) _ HX9.out Tryd.underlying34 rfl (by rw [zb_size]; exact info29) ?_
  go_simp
  refine wpList_load_g rfl 34 (.tmp 9) rfl b9 rfl 34 (zb 32) _ HY9.out Tryd.underlying34 rfl (by rw [zb_size]; exact info29) ?_
  go_simp
  have heq := fun w => run_eq29 (List.replicate 32 0) (List.replicate 32 0) rfl rfl w
  rw [beq_self_eq_true, bcells_zero] at heq
  go_wp2_with fail
  go_ret
  exact ⟨rfl, by first | exact HB9.out | (rw [← HG.out]; exact HB9.out) | (rw [HG.out]; exact HB9.out)⟩

theorem packets_any (z : Int) (seq tm : Nat) (den : List UInt8) (amt : Nat) (frm dst : List UInt8) (w : World) (hseq : seq < 18446744073709551616) (htm : tm < 18446744073709551616) (hamt : amt < 18446744073709551616)
    (ha : den.length ≤ 140737488355328) (hb : frm.length ≤ 140737488355328) (hc : dst.length ≤ 140737488355328) (ht : Sh.Tab w 1) (ht0 : Sh.Tab w 0) (hw : 1 < w.heap.size) :
    Calls Tryd.prog 3 #[.agg (pcells z seq tm den amt frm dst)] w fun e w' => e = .returned (.bool true) ∧ Below w.heap.size w w' := by
  by_cases hz : z < 0 ∨ 4 ≤ z
  · exact packets_bad z seq tm den amt frm dst w hz ha hb hc
  · exact packets_good z seq tm den amt frm dst w z.toNat (by omega) (by omega) hseq htm hamt ha hb hc ht ht0 hw
end Go.Proofs.YtjepbnhlnomhlaaDoor
