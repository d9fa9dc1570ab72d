/-
  What parcel.Packet returns: the packet's fields one behind the other, or the error ErrRange; conditions: its numbers have 64 bits, its texts no more than 65535 bytes. It only makes memory of its own.
-/
import Derived.Test.YtjepbnhlnomhlaaPutF
namespace Go.Proofs.Ytjepbnhlnomhlaa
open Go.RowKit

/-- A packet as a value. -/
def pcells (z : Int) (seq tm : Nat) (den : List UInt8) (amt : Nat) (frm dst : List UInt8) : Array Value :=
  #[.int .i64 z, .int .u64 seq, .int .u64 tm, .string ⟨den.toArray⟩, .int .u64 amt, .string ⟨frm.toArray⟩, .string ⟨dst.toArray⟩]
/-- A packet's bytes. -/
def pkt (ch seq tm : Nat) (den : List UInt8) (amt : Nat) (frm dst : List UInt8) : List UInt8 :=
  Tlv.put (Tlv.put (Tlv.put (Tlv.put (Tlv.put (Tlv.put (Tlv.put [] 1 (Tlv.num ch)) 2 (Tlv.num seq)) 3 (Tlv.num tm)) 4 den) 5 (Tlv.num amt)) 6 frm) 7 dst

/-- What a call answers with: bytes, and no error. -/
def CodePost (w : World) (bs : List UInt8) (e : Ending) (w' : World) : Prop :=
  ∃ A n c, e = .returned (.tuple #[.slice A n c, .int .i64 0]) ∧ Rd w' w'.heap.size A n bs ∧ n ≤ c ∧ Below w.heap.size w w'

/-- What the block of a boxed packet says of its cells. -/
theorem pbox {w : World} {g : Nat} {z : Int} {seq tm amt : Nat} {den frm dst : List UInt8} (h : Whole w g 24 (pcells z seq tm den amt frm dst)) :
    w.cell? ⟨g, 0, none⟩ = some (.int .i64 z) ∧ w.cell? ⟨g, 1, none⟩ = some (.int .u64 seq) ∧ w.cell? ⟨g, 2, none⟩ = some (.int .u64 tm) ∧ w.cell? ⟨g, 3, none⟩ = some (.string ⟨den.toArray⟩) ∧
    w.cell? ⟨g, 4, none⟩ = some (.int .u64 amt) ∧ w.cell? ⟨g, 5, none⟩ = some (.string ⟨frm.toArray⟩) ∧ w.cell? ⟨g, 6, none⟩ = some (.string ⟨dst.toArray⟩) :=
  ⟨h.at_ rfl, h.at_ rfl, h.at_ rfl, h.at_ rfl, h.at_ rfl, h.at_ rfl, h.at_ rfl⟩

set_option maxRecDepth 100000 in
theorem packet_bad (z : Int) (seq tm : Nat) (den : List UInt8) (amt : Nat) (frm dst : List UInt8) (w : World) (hz : z < 0 ∨ 4 ≤ z) :
    Calls Try.prog 7 #[.agg (pcells z seq tm den amt frm dst)] w fun e w' => e = .returned (.tuple #[.slice none 0 0, .int .i64 2]) ∧ Below w.heap.size w w' := by
  have hw := Whole.made w 24 (pcells z seq tm den amt frm dst)
  have c0 := (pbox hw).1
  have hb : Below w.heap.size w (w.alloc (.cells (pcells z seq tm den amt frm dst) 24)) := (Below.refl _ _).alloc (Nat.le_refl _) _
  have HB := Lib.hid hb
  clear hb hw
  have hz2 : z < 0 ∨ (decide (z < 0) = false ∧ decide (4 ≤ z) = true) := by
    rcases hz with h | h
    · exact .inl h
    · exact .inr ⟨by simp; omega, by simpa using h⟩
  go_enter Try.func7, Try.ntmps7
  go_upto_region 1 with (fail)
  generalize w.alloc (.cells (pcells z seq tm den amt frm dst) 24) = w0 at *
  rcases hz2 with hz | ⟨q1, q2⟩
  · go_wp2_with fail
    go_ret2
    exact ⟨rfl, HB.out⟩
  · go_wp2_with fail
    go_ret2
    exact ⟨rfl, HB.out⟩

theorem put_len {b v : List UInt8} {t : UInt8} {n k : Nat} (hb : b.length ≤ n) (hv : v.length ≤ 65535) (hk : n + 65538 = k) : (Tlv.put b t v).length ≤ k := by
  have := Tlv.put_length b t v
  omega
theorem num_len {x : Nat} (h : x < 18446744073709551616) : (Tlv.num x).length ≤ 65535 := by
  have := Tlv.num_len8 x h
  omega

set_option maxRecDepth 100000 in
set_option maxHeartbeats 1000000 in
theorem packet_good (z : Int) (ch seq tm : Nat) (den : List UInt8) (amt : Nat) (frm dst : List UInt8) (w : World) (hz : z = ch) (hch : ch < 4) (hseq : seq < 18446744073709551616) (htm : tm < 18446744073709551616) (hamt : amt < 18446744073709551616)
    (hden : den.length ≤ 65535) (hfrm : frm.length ≤ 65535) (hdst : dst.length ≤ 65535) :
    Calls Try.prog 7 #[.agg (pcells z seq tm den amt frm dst)] w (CodePost w (pkt ch seq tm den amt frm dst)) := by
  subst hz
  have hw := Whole.made w 24 (pcells ch seq tm den amt frm dst)
  obtain ⟨c0, c1, c2, c3, c4, c5, c6⟩ := pbox hw
  have hb : Below w.heap.size w (w.alloc (.cells (pcells ch seq tm den amt frm dst) 24)) := (Below.refl _ _).alloc (Nat.le_refl _) _
  have HB := Lib.hid hb
  have HW := Lib.hid hw
  have hs0 : w.heap.size < (w.alloc (.cells (pcells ch seq tm den amt frm dst) 24)).heap.size := by simp
  clear hb hw
  have q1 : decide ((ch : Int) < 0) = false := by simp
  have q2 : decide (4 ≤ (ch : Int)) = false := by simp; omega
  have HL := Lib.hid (And.intro hden (And.intro hfrm hdst))
  clear hden hfrm hdst
  go_enter Try.func7, Try.ntmps7
  go_upto_region 1 with (fail)
  generalize w.alloc (.cells (pcells ch seq tm den amt frm dst) 24) = w0 at *
  obtain ⟨g, hg⟩ : ∃ g, w.heap.size = g := ⟨_, rfl⟩
  rw [hg] at HB HW hs0 c0 c1 c2 c3 c4 c5 c6 ⊢
  have HG := Lib.hid hg
  clear hg
  have hw1 := Whole.made w0 9 #[.string ⟨den.toArray⟩, .string ⟨frm.toArray⟩, .string ⟨dst.toArray⟩]
  have HT := Lib.hid (tooLong_no w0.heap.size 3 [den, frm, dst] 3 rfl (by omega) (w0.alloc (.cells #[.string ⟨den.toArray⟩, .string ⟨frm.toArray⟩, .string ⟨dst.toArray⟩] 9)) (fun j s hs => by
    obtain ⟨h1, h2, h3⟩ := HL.out
    match j, hs with
    | 0, hs => injection hs with hs; subst hs; exact ⟨hw1.at_ rfl, h1⟩
    | 1, hs => injection hs with hs; subst hs; exact ⟨hw1.at_ rfl, h2⟩
    | 2, hs => injection hs with hs; subst hs; exact ⟨hw1.at_ rfl, h3⟩))
  clear hw1
  go_wp2_with fail
  refine HT.out.mono ?_
  rintro e w1 ⟨rfl, rfl⟩
  have hb1 : Below w0.heap.size w0 (w0.alloc (.cells #[.string ⟨den.toArray⟩, .string ⟨frm.toArray⟩, .string ⟨dst.toArray⟩] 9)) := (Below.refl _ _).alloc (Nat.le_refl _) _
  have HB0 := Lib.hid (HB.out.trans (hb1.mono (Nat.le_of_lt hs0)))
  have HW0 := Lib.hid (HW.out.below hb1 hs0)
  have hs1 : g < (w0.alloc (.cells #[.string ⟨den.toArray⟩, .string ⟨frm.toArray⟩, .string ⟨dst.toArray⟩] 9)).heap.size := by simp; omega
  clear hb1 HT HB HW hs0 c0 c1 c2 c3 c4 c5 c6
  generalize w0.alloc (.cells #[.string ⟨den.toArray⟩, .string ⟨frm.toArray⟩, .string ⟨dst.toArray⟩] 9) = w1 at *

  have hr0 : Rd w1 w1.heap.size none 0 [] := Rd.nil
  have HR0 := Lib.hid hr0
  have HLEN0 : Hid (([] : List UInt8).length ≤ 0) := Lib.hid (Nat.le_refl _)
  clear hr0
  obtain ⟨c0, _, _, _, _, _, _⟩ := pbox HW0.out
  have HP := Lib.hid (putNumber_any none 0 0 [] 1 1 (by decide) ch (by omega) w1 HR0.out (by omega))
  go_wp2_with fail
  refine HP.out.mono ?_
  rintro e w2 ⟨A1, n1, k1, rfl, hr, hc1, hb⟩
  have HB1 := Lib.hid (HB0.out.trans (hb.mono (Nat.le_of_lt hs1)))
  have HW1 := Lib.hid (HW0.out.below hb hs1)
  have hs2 : g < w2.heap.size := Nat.lt_of_lt_of_le hs1 hb.size
  have HR1 := Lib.hid hr
  have HLEN1 : Hid ((Tlv.put [] 1 (Tlv.num ch)).length ≤ 65538) := Lib.hid (put_len HLEN0.out (num_len (by omega)) rfl)
  clear hr hb HP c0 HW0 HB0 HR0 HLEN0 hs1
  obtain ⟨_, c1, _, _, _, _, _⟩ := pbox HW1.out
  have hn1 : n1 ≤ 65538 := by rw [← HR1.out.len]; exact HLEN1.out
  have HP := Lib.hid (putNumber_any A1 n1 k1 (Tlv.put [] 1 (Tlv.num ch)) 2 2 (by decide) seq hseq w2 HR1.out (by omega))
  go_wp2_with fail
  refine HP.out.mono ?_
  rintro e w3 ⟨A2, n2, k2, rfl, hr, hc2, hb⟩
  have HB2 := Lib.hid (HB1.out.trans (hb.mono (Nat.le_of_lt hs2)))
  have HW2 := Lib.hid (HW1.out.below hb hs2)
  have hs3 : g < w3.heap.size := Nat.lt_of_lt_of_le hs2 hb.size
  have HR2 := Lib.hid hr
  have HLEN2 : Hid ((Tlv.put (Tlv.put [] 1 (Tlv.num ch)) 2 (Tlv.num seq)).length ≤ 131076) := Lib.hid (put_len HLEN1.out (num_len hseq) rfl)
  clear hr hb HP c1 HW1 HB1 HR1 HLEN1 hs2 hn1 hc1
  obtain ⟨_, _, c2, _, _, _, _⟩ := pbox HW2.out
  have hn2 : n2 ≤ 131076 := by rw [← HR2.out.len]; exact HLEN2.out
  have HP := Lib.hid (putNumber_any A2 n2 k2 (Tlv.put (Tlv.put [] 1 (Tlv.num ch)) 2 (Tlv.num seq)) 3 3 (by decide) tm htm w3 HR2.out (by omega))
  go_wp2_with fail
  refine HP.out.mono ?_
  rintro e w4 ⟨A3, n3, k3, rfl, hr, hc3, hb⟩
  have HB3 := Lib.hid (HB2.out.trans (hb.mono (Nat.le_of_lt hs3)))
  have HW3 := Lib.hid (HW2.out.below hb hs3)
  have hs4 : g < w4.heap.size := Nat.lt_of_lt_of_le hs3 hb.size
  have HR3 := Lib.hid hr
  have HLEN3 : Hid ((Tlv.put (Tlv.put (Tlv.put [] 1 (Tlv.num ch)) 2 (Tlv.num seq)) 3 (Tlv.num tm)).length ≤ 196614) := Lib.hid (put_len HLEN2.out (num_len htm) rfl)
  clear hr hb HP c2 HW2 HB2 HR2 HLEN2 hs3 hn2 hc2
  obtain ⟨_, _, _, c3, _, _, _⟩ := pbox HW3.out
  have hn3 : n3 ≤ 196614 := by rw [← HR3.out.len]; exact HLEN3.out
  have HP := Lib.hid (putText_any A3 n3 k3 (Tlv.put (Tlv.put (Tlv.put [] 1 (Tlv.num ch)) 2 (Tlv.num seq)) 3 (Tlv.num tm)) 4 4 (by decide) den HL.out.1 w4 HR3.out (by omega))
  go_wp2_with fail
  refine HP.out.mono ?_
  rintro e w5 ⟨A4, n4, k4, rfl, hr, hc4, hb⟩
  have HB4 := Lib.hid (HB3.out.trans (hb.mono (Nat.le_of_lt hs4)))
  have HW4 := Lib.hid (HW3.out.below hb hs4)
  have hs5 : g < w5.heap.size := Nat.lt_of_lt_of_le hs4 hb.size
  have HR4 := Lib.hid hr
  have HLEN4 : Hid ((Tlv.put (Tlv.put (Tlv.put (Tlv.put [] 1 (Tlv.num ch)) 2 (Tlv.num seq)) 3 (Tlv.num tm)) 4 den).length ≤ 262152) := Lib.hid (put_len HLEN3.out HL.out.1 rfl)
  clear hr hb HP c3 HW3 HB3 HR3 HLEN3 hs4 hn3 hc3
  obtain ⟨_, _, _, _, c4, _, _⟩ := pbox HW4.out
  have hn4 : n4 ≤ 262152 := by rw [← HR4.out.len]; exact HLEN4.out
  have HP := Lib.hid (putNumber_any A4 n4 k4 (Tlv.put (Tlv.put (Tlv.put (Tlv.put [] 1 (Tlv.num ch)) 2 (Tlv.num seq)) 3 (Tlv.num tm)) 4 den) 5 5 (by decide) amt hamt w5 HR4.out (by omega))
  go_wp2_with fail
  refine HP.out.mono ?_
  rintro e w6 ⟨A5, n5, k5, rfl, hr, hc5, hb⟩
  have HB5 := Lib.hid (HB4.out.trans (hb.mono (Nat.le_of_lt hs5)))
  have HW5 := Lib.hid (HW4.out.below hb hs5)
  have hs6 : g < w6.heap.size := Nat.lt_of_lt_of_le hs5 hb.size
  have HR5 := Lib.hid hr
  have HLEN5 : Hid ((Tlv.put (Tlv.put (Tlv.put (Tlv.put (Tlv.put [] 1 (Tlv.num ch)) 2 (Tlv.num seq)) 3 (Tlv.num tm)) 4 den) 5 (Tlv.num amt)).length ≤ 327690) := Lib.hid (put_len HLEN4.out (num_len hamt) rfl)
  clear hr hb HP c4 HW4 HB4 HR4 HLEN4 hs5 hn4 hc4
  obtain ⟨_, _, _, _, _, c5, _⟩ := pbox HW5.out
  have hn5 : n5 ≤ 327690 := by rw [← HR5.out.len]; exact HLEN5.out
  have HP := Lib.hid (putText_any A5 n5 k5 (Tlv.put (Tlv.put (Tlv.put (Tlv.put (Tlv.put [] 1 (Tlv.num ch)) 2 (Tlv.num seq)) 3 (Tlv.num tm)) 4 den) 5 (Tlv.num amt)) 6 6 (by decide) frm HL.out.2.1 w6 HR5.out (by omega))
  go_wp2_with fail
  refine HP.out.mono ?_
  rintro e w7 ⟨A6, n6, k6, rfl, hr, hc6, hb⟩
  have HB6 := Lib.hid (HB5.out.trans (hb.mono (Nat.le_of_lt hs6)))
  have HW6 := Lib.hid (HW5.out.below hb hs6)
  have hs7 : g < w7.heap.size := Nat.lt_of_lt_of_le hs6 hb.size
  have HR6 := Lib.hid hr
  have HLEN6 : Hid ((Tlv.put (Tlv.put (Tlv.put (Tlv.put (Tlv.put (Tlv.put [] 1 (Tlv.num ch)) 2 (Tlv.num seq)) 3 (Tlv.num tm)) 4 den) 5 (Tlv.num amt)) 6 frm).length ≤ 393228) := Lib.hid (put_len HLEN5.out HL.out.2.1 rfl)
  clear hr hb HP c5 HW5 HB5 HR5 HLEN5 hs6 hn5 hc5
  obtain ⟨_, _, _, _, _, _, c6⟩ := pbox HW6.out
  have hn6 : n6 ≤ 393228 := by rw [← HR6.out.len]; exact HLEN6.out
  have HP := Lib.hid (putText_any A6 n6 k6 (Tlv.put (Tlv.put (Tlv.put (Tlv.put (Tlv.put (Tlv.put [] 1 (Tlv.num ch)) 2 (Tlv.num seq)) 3 (Tlv.num tm)) 4 den) 5 (Tlv.num amt)) 6 frm) 7 7 (by decide) dst HL.out.2.2 w7 HR6.out (by omega))
  go_wp2_with fail
  refine HP.out.mono ?_
  rintro e w8 ⟨A7, n7, k7, rfl, hr, hc7, hb⟩
  have HB7 := Lib.hid (HB6.out.trans (hb.mono (Nat.le_of_lt hs7)))
  have HW7 := Lib.hid (HW6.out.below hb hs7)
  have hs8 : g < w8.heap.size := Nat.lt_of_lt_of_le hs7 hb.size
  have HR7 := Lib.hid hr
  have HLEN7 : Hid ((Tlv.put (Tlv.put (Tlv.put (Tlv.put (Tlv.put (Tlv.put (Tlv.put [] 1 (Tlv.num ch)) 2 (Tlv.num seq)) 3 (Tlv.num tm)) 4 den) 5 (Tlv.num amt)) 6 frm) 7 dst).length ≤ 458766) := Lib.hid (put_len HLEN6.out HL.out.2.2 rfl)
  clear hr hb HP c6 HW6 HB6 HR6 HLEN6 hs7 hn6 hc6
  go_wp2_with fail
  go_ret2
  exact ⟨A7, n7, k7, rfl, HR7.out, hc7, by rw [HG.out]; exact HB7.out⟩
end Go.Proofs.Ytjepbnhlnomhlaa
