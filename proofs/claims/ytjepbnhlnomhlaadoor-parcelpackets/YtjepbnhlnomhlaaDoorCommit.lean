/-
  What parcel.Commitment returns: the sum of the packet's bytes, or the error ErrRange; conditions: its numbers have 64 bits, its texts no more than 65535 bytes, the table holds its words. It only makes memory of its own.
-/
import Derived.Test.YtjepbnhlnomhlaaDoorPacket
import Derived.Test.YtjepbnhlnomhlaaDoorRes
import Derived.Test.YtjepbnhlnomhlaaDoorShaHelp
namespace Go.Proofs.YtjepbnhlnomhlaaDoor
open Go.RowKit

theorem reads_of_rd {w : World} {A : Option Addr} {n : Nat} {bs : List UInt8} (h : Rd w w.heap.size A n bs) : Sh.Reads w A n bs :=
  ⟨h.len, fun hn => h.at_ hn⟩
theorem zero34 : ∀ w, (zeroValue 34).run Tryd.prog w = .ok (.agg (zb 32)) w := (zero_of_info (P := Tryd.prog) (t := 34) (v := .agg (zb 32)) (n := 32) (by kernel_rfl)).1

set_option maxRecDepth 100000 in
theorem commit_bad (z : Int) (seq tm : Nat) (den : List UInt8) (amt : Nat) (frm dst : List UInt8) (w : World) (hz : z < 0 ∨ 4 ≤ z) :
    Calls Tryd.prog 8 #[.agg (pcells z seq tm den amt frm dst)] w fun e w' => e = .returned (.tuple #[.agg (zb 32), .int .i64 2]) ∧ Below w.heap.size w w' := by
  have hz34 := zero34
  have hZ := Lib.hid hz
  clear hz
  go_enter Tryd.func8, Tryd.ntmps8
  go_upto_region 1 with (fail)
  have hb : Below w.heap.size w ((w.alloc (.cells (pcells z seq tm den amt frm dst) 24)).alloc (.cells (zb 32) 34)) := ((Below.refl _ _).alloc (Nat.le_refl _) _).alloc (by simp) _
  have hw1 := (Whole.made w 24 (pcells z seq tm den amt frm dst)).alloc (.cells (zb 32) 34)
  have hw2 := Whole.made (w.alloc (.cells (pcells z seq tm den amt frm dst) 24)) 34 (zb 32)
  rw [size_alloc] at hw2
  have hs : w.heap.size + 1 < ((w.alloc (.cells (pcells z seq tm den amt frm dst) 24)).alloc (.cells (zb 32) 34)).heap.size := by simp
  generalize (w.alloc (.cells (pcells z seq tm den amt frm dst) 24)).alloc (.cells (zb 32) 34) = w1 at *
  obtain ⟨c0, c1, c2, c3, c4, c5, c6⟩ := pbox hw1
  have HB := Lib.hid hb
  have HW2 := Lib.hid hw2
  have HP := Lib.hid (packet_bad z seq tm den amt frm dst w1 hZ.out)
  clear hb hw1 hw2
  go_wp2_with fail
  refine HP.out.mono ?_
  rintro e w2 ⟨rfl, hb⟩
  have HW3 := Lib.hid (HW2.out.below hb hs)
  have HB2 := Lib.hid (HB.out.trans (hb.mono HB.out.size))
  clear hb HP HB HW2 hs c0 c1 c2 c3 c4 c5 c6
  go_upto_region 3 with (fail)
  refine wp_region_lit ?_
  iterate 6 go_step
  refine wpList_store_mid rfl 34 (.tmp 2) (.tmp 13) rfl (w.heap.size + 1) 0 (zb 32) rfl rfl ?_ ?_ (bcells_one _) ?_
  · have := HW3.out.there_
    exact this
  · rw [zb_size]; exact info29
  have HW4 := Lib.hid (HW3.out.setAll (vs := zb 32) rfl)
  have HB4 := Lib.hid (below_setCells w (w.heap.size + 1) (zb 32).toList 0 HB2.out (by omega))
  clear hz34
  generalize w2.setCells (w.heap.size + 1) 0 (zb 32).toList = w4 at *
  go_wp2_with fail
  refine bodyPost_ret (results_cell2 Tryd.results8 _ _ _ ⟨w.heap.size + 1, 0, none⟩ _ rfl (load_whole HW4.out 34 _ Tryd.underlying34 rfl (by rw [zb_size]; exact info29))) rfl ⟨rfl, HB4.out⟩

theorem put_len2 (b v : List UInt8) (t : UInt8) (n m k : Nat) (hb : b.length ≤ n) (hv : v.length ≤ m) (hk : n + m + 3 ≤ k) : (Tlv.put b t v).length ≤ k := by
  have := Tlv.put_length b t v
  omega
theorem pkt_len (ch seq tm : Nat) (den : List UInt8) (amt : Nat) (frm dst : List UInt8) (hch : ch < 4) (hseq : seq < 18446744073709551616) (htm : tm < 18446744073709551616) (hamt : amt < 18446744073709551616) :
    (pkt ch seq tm den amt frm dst).length ≤ den.length + frm.length + dst.length + 60 := by
  have h1 := Tlv.num_len8 ch (by omega)
  have h2 := Tlv.num_len8 seq hseq
  have h3 := Tlv.num_len8 tm htm
  have h5 := Tlv.num_len8 amt hamt
  unfold pkt
  refine put_len2 _ _ _ _ _ _ (put_len2 _ _ _ _ _ _ (put_len2 _ _ _ _ _ _ (put_len2 _ _ _ _ _ _ (put_len2 _ _ _ _ _ _ (put_len2 _ _ _ _ _ _ (put_len2 _ _ _ 0 8 11 (by simp) h1 (by omega)) h2 (Nat.le_refl _)) h3 (Nat.le_refl _)) (Nat.le_refl _) (Nat.le_refl _)) h5 (Nat.le_refl _)) (Nat.le_refl _) (Nat.le_refl _)) (Nat.le_refl _) ?_
  omega

set_option maxRecDepth 100000 in
theorem commit_good (z : Int) (ch seq tm : Nat) (den : List UInt8) (amt : Nat) (frm dst : List UInt8) (w : World) (hz : z = ch) (hch : ch < 4) (hseq : seq < 18446744073709551616) (htm : tm < 18446744073709551616) (hamt : amt < 18446744073709551616)
    (hden : den.length ≤ 65535) (hfrm : frm.length ≤ 65535) (hdst : dst.length ≤ 65535) (ht : Sh.Tab w 1) (hw : 1 < w.heap.size) :
    Calls Tryd.prog 8 #[.agg (pcells z seq tm den amt frm dst)] w fun e w' => e = .returned (.tuple #[.agg (bcells (Sh.Sha.sum (pkt ch seq tm den amt frm dst))), .int .i64 0]) ∧ Below w.heap.size w w' := by
  have hz34 := zero34
  have HT := Lib.hid ht
  have HPL := Lib.hid (pkt_len ch seq tm den amt frm dst hch hseq htm hamt)
  have HP0 := Lib.hid (fun w => packet_good z ch seq tm den amt frm dst w hz hch hseq htm hamt hden hfrm hdst)
  have HPL2 : Hid ((pkt ch seq tm den amt frm dst).length ≤ 1000000) := Lib.hid (by have := HPL.out; omega)
  clear ht hz hch hseq htm hamt hden hfrm hdst HPL
  go_enter Tryd.func8, Tryd.ntmps8
  go_upto_region 1 with (fail)
  clear hz34
  have hb : Below w.heap.size w ((w.alloc (.cells (pcells z seq tm den amt frm dst) 24)).alloc (.cells (zb 32) 34)) := ((Below.refl _ _).alloc (Nat.le_refl _) _).alloc (by simp) _
  have hw1 := (Whole.made w 24 (pcells z seq tm den amt frm dst)).alloc (.cells (zb 32) 34)
  have hw2 := Whole.made (w.alloc (.cells (pcells z seq tm den amt frm dst) 24)) 34 (zb 32)
  rw [size_alloc] at hw2
  have hs : w.heap.size + 1 < ((w.alloc (.cells (pcells z seq tm den amt frm dst) 24)).alloc (.cells (zb 32) 34)).heap.size := by simp
  generalize (w.alloc (.cells (pcells z seq tm den amt frm dst) 24)).alloc (.cells (zb 32) 34) = w1 at *
  obtain ⟨c0, c1, c2, c3, c4, c5, c6⟩ := pbox hw1
  have HB := Lib.hid hb
  have HW2 := Lib.hid hw2
  have HP := Lib.hid (HP0.out w1)
  clear hb hw1 hw2 HP0
  go_wp2_with fail
  refine HP.out.mono ?_
  rintro e w2 ⟨A1, n1, k1, rfl, hr, hnk, hb⟩
  have hn1 : n1 ≤ 1000000 := by rw [← hr.len]; exact HPL2.out
  have hbn := HB.out.trans (hb.mono HB.out.size)
  have hba : Below w.heap.size w (w2.alloc (.cells #[.slice A1 n1 k1] 27)) := hbn.alloc hbn.size _
  have hsz : w.heap.size + 1 < w2.heap.size := Nat.lt_of_lt_of_le hs hb.size
  have hsum := Sh.sum_any _ 1 1 [pkt ch seq tm den amt frm dst] _ (Sh.parts_one w2 27 A1 n1 k1 _ (reads_of_rd hr) hnk (by omega)) (by omega) (Sh.tab_below HT.out hba hw) (by simp; omega)
  rw [show [pkt ch seq tm den amt frm dst].flatten = pkt ch seq tm den amt frm dst by simp] at hsum
  have HSUM := Lib.hid hsum
  have HW3 := Lib.hid ((HW2.out.below hb hs).alloc (.cells #[.slice A1 n1 k1] 27))
  have HBA := Lib.hid hba
  have hsz' : w.heap.size + 1 < (w2.alloc (.cells #[.slice A1 n1 k1] 27)).heap.size := by simp; omega
  clear hb HP HB HW2 hs c0 c1 c2 c3 c4 c5 c6 hr hnk hbn hba hsum hn1 hsz
  go_wp2_with fail
  generalize w2.alloc (.cells #[.slice A1 n1 k1] 27) = w3 at *
  refine HSUM.out.mono ?_
  rintro e w4 ⟨rfl, hb4⟩
  have hw4 := HW3.out.below hb4 hsz'
  have hb5 := HBA.out.trans (hb4.mono HBA.out.size)
  have hlen : (Sh.Sha.sum (pkt ch seq tm den amt frm dst)).length = 32 := Sh.sum_length _
  have HLEN := Lib.hid hlen
  have HW4 := Lib.hid hw4
  have HB5 := Lib.hid hb5
  clear hb4 hw4 hb5 HSUM HW3 HBA hlen HPL2
  obtain ⟨S, hS⟩ : ∃ S, Sh.Sha.sum (pkt ch seq tm den amt frm dst) = S := ⟨_, rfl⟩
  rw [hS] at HLEN ⊢
  have HS := Lib.hid hS
  clear hS
  have hone : ((Sh.bcells S).all (·.oneCell')) = true := bcells_one S
  have hsize : (Sh.bcells S).size = 32 := (bcells_size S).trans HLEN.out
  have HONE := Lib.hid hone
  have HSIZE := Lib.hid hsize
  clear hone hsize
  obtain ⟨X, hX⟩ : ∃ X, Sh.bcells S = X := ⟨_, rfl⟩
  rw [hX] at HONE HSIZE ⊢
  have HX := Lib.hid hX
  clear hX
  simp only []
  go_step
  refine wpList_store_mid rfl 34 (.tmp 2) (.tmp 17) rfl (w.heap.size + 1) 0 X rfl rfl ?_ ?_ HONE.out ?_
  · have := HW4.out.there_
    rw [zb_size] at this
    rw [HSIZE.out]; exact this
  · rw [HSIZE.out]; exact info29
  have HW6 := Lib.hid (HW4.out.setAll (vs := X) (by rw [zb_size, HSIZE.out]))
  have HB6 := Lib.hid (below_setCells w (w.heap.size + 1) X.toList 0 HB5.out (by omega))
  generalize w4.setCells (w.heap.size + 1) 0 X.toList = w6 at *
  go_wp2_with fail
  refine bodyPost_ret (results_cell2 Tryd.results8 _ _ _ ⟨w.heap.size + 1, 0, none⟩ _ rfl (load_whole HW6.out 34 _ Tryd.underlying34 rfl (by rw [HSIZE.out]; exact info29))) rfl ⟨by rw [HS.out, ← HX.out]; rfl, HB6.out⟩
end Go.Proofs.YtjepbnhlnomhlaaDoor
