/-
  What the document's Packet returns: the packet's fields one behind the other, or the number of ErrRange; conditions: its numbers have 64 bits, its texts no more than 65535 bytes. It only makes memory of its own.
-/
import Derived.Test.YtjepbnhlnomhlaaDoorPacket
import Derived.Test.YtjepbnhlnomhlaaDoorEight
namespace Go.Proofs.YtjepbnhlnomhlaaDoor
open Go.RowKit

theorem refPut_int (A : Option Addr) (n c : Nat) (bs : List UInt8) (z : Int) (tag : UInt8) (hz : z = tag.toNat) (A2 : Option Addr) (m c2 : Nat) (vs : List UInt8) (w : World) (hr : Rd w w.heap.size A n bs) (hr2 : Rd w w.heap.size A2 m vs) (hn : n ≤ 70368744111616) (hm : m ≤ 65535) :
    Calls Tryd.prog 14 #[.slice A n c, .int .u8 z, .slice A2 m c2] w (RefPutPost w (Tlv.put bs tag vs)) := by
  subst hz
  exact refPut_any A n c bs tag A2 m c2 vs w hr hr2 hn hm

def RefCodePost (w : World) (bs : List UInt8) (e : Ending) (w' : World) : Prop :=
  ∃ A n c, e = .returned (.tuple #[.slice A n c, .int .i64 0]) ∧ Rd w' w'.heap.size A n bs ∧ Below w.heap.size w w'

set_option maxRecDepth 100000 in
theorem refPacket_bad (z : Int) (seq tm : Nat) (den : List UInt8) (amt : Nat) (frm dst : List UInt8) (w : World) (hz : z < 0 ∨ 4 ≤ z) :
    Calls Tryd.prog 7 #[.agg (pcells z seq tm den amt frm dst)] w fun e w' => e = .returned (.tuple #[.slice none 0 0, .int .i64 2]) ∧ Below w.heap.size w w' := by
  have hw := Whole.made w 24 (pcells z seq tm den amt frm dst)
  have c0 := (pbox hw).1
  have hb : Below w.heap.size w (w.alloc (.cells (pcells z seq tm den amt frm dst) 24)) := (Below.refl _ _).alloc (Nat.le_refl _) _
  have HB := Lib.hid hb
  clear hb hw
  have hz2 : z < 0 ∨ (decide (z < 0) = false ∧ decide (3 < z) = true) := by
    rcases hz with h | h
    · exact .inl h
    · exact .inr ⟨by simp; omega, by simp; omega⟩
  go_enter Tryd.func7, Tryd.ntmps7
  go_upto_region 1 with (fail)
  generalize w.alloc (.cells (pcells z seq tm den amt frm dst) 24) = w0 at *
  rcases hz2 with hz | ⟨q1, q2⟩
  · go_wp2_with fail
    go_ret2
    exact ⟨rfl, HB.out⟩
  · go_wp2_with fail
    go_ret2
    exact ⟨rfl, HB.out⟩

set_option maxRecDepth 100000 in
set_option maxHeartbeats 1000000 in
theorem refPacket_good (z : Int) (ch seq tm : Nat) (den : List UInt8) (amt : Nat) (frm dst : List UInt8) (w : World) (hz : z = ch) (hch : ch < 4) (hseq : seq < 18446744073709551616) (htm : tm < 18446744073709551616) (hamt : amt < 18446744073709551616)
    (hden : den.length ≤ 65535) (hfrm : frm.length ≤ 65535) (hdst : dst.length ≤ 65535) :
    Calls Tryd.prog 7 #[.agg (pcells z seq tm den amt frm dst)] w (RefCodePost w (pkt ch seq tm den amt frm dst)) := by
  subst hz
  have hw := Whole.made w 24 (pcells ch seq tm den amt frm dst)
  obtain ⟨c0, _, _, c3, _, c5, c6⟩ := pbox hw
  have hb : Below w.heap.size w (w.alloc (.cells (pcells ch seq tm den amt frm dst) 24)) := (Below.refl _ _).alloc (Nat.le_refl _) _
  have HB0 := Lib.hid hb
  have HW0 := Lib.hid hw
  have hs1 : w.heap.size < (w.alloc (.cells (pcells ch seq tm den amt frm dst) 24)).heap.size := by simp
  clear hb hw
  have q1 : decide ((ch : Int) < 0) = false := by simp
  have q2 : decide (3 < (ch : Int)) = false := by simp; omega
  obtain ⟨a, ha⟩ : ∃ a, (⟨den.toArray⟩ : ByteArray).size = a := ⟨_, rfl⟩
  obtain ⟨b, hb⟩ : ∃ a, (⟨frm.toArray⟩ : ByteArray).size = a := ⟨_, rfl⟩
  obtain ⟨d, hd⟩ : ∃ a, (⟨dst.toArray⟩ : ByteArray).size = a := ⟨_, rfl⟩
  have ha' : den.length = a := ha
  have hb' : frm.length = b := hb
  have hd' : dst.length = d := hd
  have q3 : decide (65535 < (a : Int)) = false := by simp; omega
  have q4 : decide (65535 < (b : Int)) = false := by simp; omega
  have q5 : decide (65535 < (d : Int)) = false := by simp; omega
  clear ha' hb' hd'
  have HL := Lib.hid (And.intro hden (And.intro hfrm hdst))
  clear hden hfrm hdst
  go_enter Tryd.func7, Tryd.ntmps7
  go_upto_region 1 with (fail)
  generalize w.alloc (.cells (pcells ch seq tm den amt frm dst) 24) = w1 at *
  obtain ⟨g, hg⟩ : ∃ g, w.heap.size = g := ⟨_, rfl⟩
  rw [hg] at HB0 HW0 hs1 c0 c3 c5 c6 ⊢
  have HG := Lib.hid hg
  clear hg
  go_upto_region 5 with (fail)
  clear q1 q2 q3 q4 q5 c0 c3 c5 c6 ha hb hd
  have hr0 : Rd w1 w1.heap.size none 0 [] := Rd.nil
  have HR0 := Lib.hid hr0
  have HLEN0 : Hid (([] : List UInt8).length ≤ 0) := Lib.hid (Nat.le_refl _)
  clear hr0
  obtain ⟨c0, _, _, _, _, _, _⟩ := pbox HW0.out
  have HP := Lib.hid (refNum_any ch (by omega) w1)
  go_wp2_with fail
  refine HP.out.mono ?_
  rintro e u1 ⟨B1, m1, d1, rfl, hr, _, hb⟩
  have HBU := Lib.hid hb
  have HRU := Lib.hid hr
  have hmU : m1 ≤ 65535 := by rw [← hr.len]; exact (num_len (by omega))
  clear hr hb HP
  have HP := Lib.hid (refPut_int none 0 0 [] 1 1 (by decide) B1 m1 d1 _ u1 ((HR0.out.below HBU.out (Nat.le_refl _)).more HBU.out.size) HRU.out (by omega) hmU)
  go_wp2_with fail
  refine HP.out.mono ?_
  rintro e w2 ⟨A1, n1, k1, rfl, hr, hb'⟩
  have hb := HBU.out.trans (hb'.mono HBU.out.size)
  have HB1 := Lib.hid (HB0.out.trans (hb.mono (Nat.le_of_lt hs1)))
  have HW1 := Lib.hid (HW0.out.below hb hs1)
  have hs2 : g < w2.heap.size := Nat.lt_of_lt_of_le hs1 hb.size
  have HR1 := Lib.hid hr
  have HLEN1 : Hid ((Tlv.put [] 1 (Tlv.num ch)).length ≤ 65538) := Lib.hid (put_len HLEN0.out (num_len (by omega)) rfl)
  clear hr hb hb' HP c0 HW0 HB0 HR0 HLEN0 hs1 HBU HRU hmU
  obtain ⟨_, c1, _, _, _, _, _⟩ := pbox HW1.out
  have hn1 : n1 ≤ 65538 := by rw [← HR1.out.len]; exact HLEN1.out
  have HP := Lib.hid (refNum_any seq hseq w2)
  go_wp2_with fail
  refine HP.out.mono ?_
  rintro e u2 ⟨B2, m2, d2, rfl, hr, _, hb⟩
  have HBU := Lib.hid hb
  have HRU := Lib.hid hr
  have hmU : m2 ≤ 65535 := by rw [← hr.len]; exact (num_len hseq)
  clear hr hb HP
  have HP := Lib.hid (refPut_int A1 n1 k1 (Tlv.put [] 1 (Tlv.num ch)) 2 2 (by decide) B2 m2 d2 _ u2 ((HR1.out.below HBU.out (Nat.le_refl _)).more HBU.out.size) HRU.out (by omega) hmU)
  go_wp2_with fail
  refine HP.out.mono ?_
  rintro e w3 ⟨A2, n2, k2, rfl, hr, hb'⟩
  have hb := HBU.out.trans (hb'.mono HBU.out.size)
  have HB2 := Lib.hid (HB1.out.trans (hb.mono (Nat.le_of_lt hs2)))
  have HW2 := Lib.hid (HW1.out.below hb hs2)
  have hs3 : g < w3.heap.size := Nat.lt_of_lt_of_le hs2 hb.size
  have HR2 := Lib.hid hr
  have HLEN2 : Hid ((Tlv.put (Tlv.put [] 1 (Tlv.num ch)) 2 (Tlv.num seq)).length ≤ 131076) := Lib.hid (put_len HLEN1.out (num_len hseq) rfl)
  clear hr hb hb' HP c1 HW1 HB1 HR1 HLEN1 hs2 HBU HRU hmU hn1
  obtain ⟨_, _, c2, _, _, _, _⟩ := pbox HW2.out
  have hn2 : n2 ≤ 131076 := by rw [← HR2.out.len]; exact HLEN2.out
  have HP := Lib.hid (refNum_any tm htm w3)
  go_wp2_with fail
  refine HP.out.mono ?_
  rintro e u3 ⟨B3, m3, d3, rfl, hr, _, hb⟩
  have HBU := Lib.hid hb
  have HRU := Lib.hid hr
  have hmU : m3 ≤ 65535 := by rw [← hr.len]; exact (num_len htm)
  clear hr hb HP
  have HP := Lib.hid (refPut_int A2 n2 k2 (Tlv.put (Tlv.put [] 1 (Tlv.num ch)) 2 (Tlv.num seq)) 3 3 (by decide) B3 m3 d3 _ u3 ((HR2.out.below HBU.out (Nat.le_refl _)).more HBU.out.size) HRU.out (by omega) hmU)
  go_wp2_with fail
  refine HP.out.mono ?_
  rintro e w4 ⟨A3, n3, k3, rfl, hr, hb'⟩
  have hb := HBU.out.trans (hb'.mono HBU.out.size)
  have HB3 := Lib.hid (HB2.out.trans (hb.mono (Nat.le_of_lt hs3)))
  have HW3 := Lib.hid (HW2.out.below hb hs3)
  have hs4 : g < w4.heap.size := Nat.lt_of_lt_of_le hs3 hb.size
  have HR3 := Lib.hid hr
  have HLEN3 : Hid ((Tlv.put (Tlv.put (Tlv.put [] 1 (Tlv.num ch)) 2 (Tlv.num seq)) 3 (Tlv.num tm)).length ≤ 196614) := Lib.hid (put_len HLEN2.out (num_len htm) rfl)
  clear hr hb hb' HP c2 HW2 HB2 HR2 HLEN2 hs3 HBU HRU hmU hn2
  obtain ⟨_, _, _, c3, _, _, _⟩ := pbox HW3.out
  have hn3 : n3 ≤ 196614 := by rw [← HR3.out.len]; exact HLEN3.out
  obtain ⟨d4, u4, hcv, hr, hb⟩ := conv_new w4 den
  have hmU := HL.out.1
  obtain ⟨m4, hm⟩ : ∃ m, den.length = m := ⟨_, rfl⟩
  rw [hm] at hcv hr hmU
  have HBU := Lib.hid hb
  have HRU := Lib.hid hr
  clear hr hb hm
  have HP := Lib.hid (refPut_int A3 n3 k3 (Tlv.put (Tlv.put (Tlv.put [] 1 (Tlv.num ch)) 2 (Tlv.num seq)) 3 (Tlv.num tm)) 4 4 (by decide) _ m4 d4 _ u4 ((HR3.out.below HBU.out (Nat.le_refl _)).more HBU.out.size) HRU.out (by omega) hmU)
  go_wp2_with fail
  refine HP.out.mono ?_
  rintro e w5 ⟨A4, n4, k4, rfl, hr, hb'⟩
  have hb := HBU.out.trans (hb'.mono HBU.out.size)
  have HB4 := Lib.hid (HB3.out.trans (hb.mono (Nat.le_of_lt hs4)))
  have HW4 := Lib.hid (HW3.out.below hb hs4)
  have hs5 : g < w5.heap.size := Nat.lt_of_lt_of_le hs4 hb.size
  have HR4 := Lib.hid hr
  have HLEN4 : Hid ((Tlv.put (Tlv.put (Tlv.put (Tlv.put [] 1 (Tlv.num ch)) 2 (Tlv.num seq)) 3 (Tlv.num tm)) 4 den).length ≤ 262152) := Lib.hid (put_len HLEN3.out HL.out.1 rfl)
  clear hr hb hb' HP c3 HW3 HB3 HR3 HLEN3 hs4 HBU HRU hmU hn3 hcv
  obtain ⟨_, _, _, _, c4, _, _⟩ := pbox HW4.out
  have hn4 : n4 ≤ 262152 := by rw [← HR4.out.len]; exact HLEN4.out
  have HP := Lib.hid (refNum_any amt hamt w5)
  go_wp2_with fail
  refine HP.out.mono ?_
  rintro e u5 ⟨B5, m5, d5, rfl, hr, _, hb⟩
  have HBU := Lib.hid hb
  have HRU := Lib.hid hr
  have hmU : m5 ≤ 65535 := by rw [← hr.len]; exact (num_len hamt)
  clear hr hb HP
  have HP := Lib.hid (refPut_int A4 n4 k4 (Tlv.put (Tlv.put (Tlv.put (Tlv.put [] 1 (Tlv.num ch)) 2 (Tlv.num seq)) 3 (Tlv.num tm)) 4 den) 5 5 (by decide) B5 m5 d5 _ u5 ((HR4.out.below HBU.out (Nat.le_refl _)).more HBU.out.size) HRU.out (by omega) hmU)
  go_wp2_with fail
  refine HP.out.mono ?_
  rintro e w6 ⟨A5, n5, k5, rfl, hr, hb'⟩
  have hb := HBU.out.trans (hb'.mono HBU.out.size)
  have HB5 := Lib.hid (HB4.out.trans (hb.mono (Nat.le_of_lt hs5)))
  have HW5 := Lib.hid (HW4.out.below hb hs5)
  have hs6 : g < w6.heap.size := Nat.lt_of_lt_of_le hs5 hb.size
  have HR5 := Lib.hid hr
  have HLEN5 : Hid ((Tlv.put (Tlv.put (Tlv.put (Tlv.put (Tlv.put [] 1 (Tlv.num ch)) 2 (Tlv.num seq)) 3 (Tlv.num tm)) 4 den) 5 (Tlv.num amt)).length ≤ 327690) := Lib.hid (put_len HLEN4.out (num_len hamt) rfl)
  clear hr hb hb' HP c4 HW4 HB4 HR4 HLEN4 hs5 HBU HRU hmU hn4
  obtain ⟨_, _, _, _, _, c5, _⟩ := pbox HW5.out
  have hn5 : n5 ≤ 327690 := by rw [← HR5.out.len]; exact HLEN5.out
  obtain ⟨d6, u6, hcv, hr, hb⟩ := conv_new w6 frm
  have hmU := HL.out.2.1
  obtain ⟨m6, hm⟩ : ∃ m, frm.length = m := ⟨_, rfl⟩
  rw [hm] at hcv hr hmU
  have HBU := Lib.hid hb
  have HRU := Lib.hid hr
  clear hr hb hm
  have HP := Lib.hid (refPut_int A5 n5 k5 (Tlv.put (Tlv.put (Tlv.put (Tlv.put (Tlv.put [] 1 (Tlv.num ch)) 2 (Tlv.num seq)) 3 (Tlv.num tm)) 4 den) 5 (Tlv.num amt)) 6 6 (by decide) _ m6 d6 _ u6 ((HR5.out.below HBU.out (Nat.le_refl _)).more HBU.out.size) HRU.out (by omega) hmU)
  go_wp2_with fail
  refine HP.out.mono ?_
  rintro e w7 ⟨A6, n6, k6, rfl, hr, hb'⟩
  have hb := HBU.out.trans (hb'.mono HBU.out.size)
  have HB6 := Lib.hid (HB5.out.trans (hb.mono (Nat.le_of_lt hs6)))
  have HW6 := Lib.hid (HW5.out.below hb hs6)
  have hs7 : g < w7.heap.size := Nat.lt_of_lt_of_le hs6 hb.size
  have HR6 := Lib.hid hr
  have HLEN6 : Hid ((Tlv.put (Tlv.put (Tlv.put (Tlv.put (Tlv.put (Tlv.put [] 1 (Tlv.num ch)) 2 (Tlv.num seq)) 3 (Tlv.num tm)) 4 den) 5 (Tlv.num amt)) 6 frm).length ≤ 393228) := Lib.hid (put_len HLEN5.out HL.out.2.1 rfl)
  clear hr hb hb' HP c5 HW5 HB5 HR5 HLEN5 hs6 HBU HRU hmU hn5 hcv
  obtain ⟨_, _, _, _, _, _, c6⟩ := pbox HW6.out
  have hn6 : n6 ≤ 393228 := by rw [← HR6.out.len]; exact HLEN6.out
  obtain ⟨d7, u7, hcv, hr, hb⟩ := conv_new w7 dst
  have hmU := HL.out.2.2
  obtain ⟨m7, hm⟩ : ∃ m, dst.length = m := ⟨_, rfl⟩
  rw [hm] at hcv hr hmU
  have HBU := Lib.hid hb
  have HRU := Lib.hid hr
  clear hr hb hm
  have HP := Lib.hid (refPut_int A6 n6 k6 (Tlv.put (Tlv.put (Tlv.put (Tlv.put (Tlv.put (Tlv.put [] 1 (Tlv.num ch)) 2 (Tlv.num seq)) 3 (Tlv.num tm)) 4 den) 5 (Tlv.num amt)) 6 frm) 7 7 (by decide) _ m7 d7 _ u7 ((HR6.out.below HBU.out (Nat.le_refl _)).more HBU.out.size) HRU.out (by omega) hmU)
  go_wp2_with fail
  refine HP.out.mono ?_
  rintro e w8 ⟨A7, n7, k7, rfl, hr, hb'⟩
  have hb := HBU.out.trans (hb'.mono HBU.out.size)
  have HB7 := Lib.hid (HB6.out.trans (hb.mono (Nat.le_of_lt hs7)))
  have HW7 := Lib.hid (HW6.out.below hb hs7)
  have hs8 : g < w8.heap.size := Nat.lt_of_lt_of_le hs7 hb.size
  have HR7 := Lib.hid hr
  have HLEN7 : Hid ((Tlv.put (Tlv.put (Tlv.put (Tlv.put (Tlv.put (Tlv.put (Tlv.put [] 1 (Tlv.num ch)) 2 (Tlv.num seq)) 3 (Tlv.num tm)) 4 den) 5 (Tlv.num amt)) 6 frm) 7 dst).length ≤ 458766) := Lib.hid (put_len HLEN6.out HL.out.2.2 rfl)
  clear hr hb hb' HP c6 HW6 HB6 HR6 HLEN6 hs7 HBU HRU hmU hn6 hcv
  go_wp2_with fail
  go_ret2
  exact ⟨A7, n7, k7, rfl, HR7.out, by rw [HG.out]; exact HB7.out⟩
end Go.Proofs.YtjepbnhlnomhlaaDoor
