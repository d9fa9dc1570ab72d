/-
  What parcel.Ack, the statements' long and their fixed facts (chapter 4's two examples) return; conditions: an answer is right, numbers have 64 bits. They only make memory of their own.
-/
import Derived.Test.YtjepbnhlnomhlaaPacket
namespace Go.Proofs.Ytjepbnhlnomhlaa
open Go.RowKit

/-- An answer as a value. -/
def acells (ok : Bool) (k : Nat) : Array Value := #[.bool ok, .int .i64 k]
/-- An answer's bytes. -/
def ackb (ok : Bool) (k : Nat) : List UInt8 := Tlv.put (if ok = true then Tlv.put [] 1 (Tlv.num 1) else []) 2 (Tlv.num k)

theorem abox {w : World} {g : Nat} {ok : Bool} {k : Nat} (h : Whole w g 27 (acells ok k)) : w.cell? ⟨g, 0, none⟩ = some (.bool ok) ∧ w.cell? ⟨g, 1, none⟩ = some (.int .i64 k) := ⟨h.at_ rfl, h.at_ rfl⟩

set_option maxRecDepth 100000 in
theorem ack_yes (w : World) : Calls Try.prog 8 #[.agg (acells true 0)] w (CodePost w (ackb true 0)) := by
  have hw := Whole.made w 27 (acells true 0)
  obtain ⟨c0, c1⟩ := abox hw
  have hb : Below w.heap.size w (w.alloc (.cells (acells true 0) 27)) := (Below.refl _ _).alloc (Nat.le_refl _) _
  have HB := Lib.hid hb
  have HW := Lib.hid hw
  have hs0 : w.heap.size < (w.alloc (.cells (acells true 0) 27)).heap.size := by simp
  clear hb hw
  go_enter Try.func8, Try.ntmps8
  go_upto_region 1 with (fail)
  generalize w.alloc (.cells (acells true 0) 27) = w0 at *
  have HP := Lib.hid (putNumber_any none 0 0 [] 1 1 (by decide) 1 (by omega) w0 Rd.nil (by omega))
  have c1' : w0.cell? ⟨w.heap.size, 1, none⟩ = some (.int .i64 0) := c1
  clear c1
  go_wp2_with fail
  refine HP.out.mono ?_
  rintro e w1 ⟨A1, n1, k1, rfl, hr, hc1, hb⟩
  have HB1 := Lib.hid (HB.out.trans (hb.mono (Nat.le_of_lt hs0)))
  have c1 : w1.cell? ⟨w.heap.size, 1, none⟩ = some (.int .i64 0) := (abox (HW.out.below hb hs0)).2
  have hn1 : n1 ≤ 65538 := by rw [← hr.len]; exact put_len (n := 0) (Nat.le_refl _) (num_len (by omega)) rfl
  have HP2 := Lib.hid (putNumber_any A1 n1 k1 _ 2 2 (by decide) 0 (by omega) w1 hr (by omega))
  clear hr hb HP HW c0 c1' HB hn1 hc1 hs0
  go_wp2_with fail
  refine HP2.out.mono ?_
  rintro e w2 ⟨A2, n2, k2, rfl, hr, hc2, hb⟩
  have HB2 := Lib.hid (HB1.out.trans (hb.mono HB1.out.size))
  have HR := Lib.hid hr
  clear hr hb HP2 c1
  go_wp2_with fail
  go_ret2
  exact ⟨A2, n2, k2, rfl, HR.out, hc2, HB2.out⟩

set_option maxRecDepth 100000 in
theorem ack_no (k : Nat) (hk : 0 < k) (hk2 : k < 9223372036854775808) (w : World) : Calls Try.prog 8 #[.agg (acells false k)] w (CodePost w (ackb false k)) := by
  have hw := Whole.made w 27 (acells false k)
  obtain ⟨c0, c1⟩ := abox hw
  have hb : Below w.heap.size w (w.alloc (.cells (acells false k) 27)) := (Below.refl _ _).alloc (Nat.le_refl _) _
  have HB := Lib.hid hb
  have hs0 : w.heap.size < (w.alloc (.cells (acells false k) 27)).heap.size := by simp
  clear hb hw
  have q1 : decide ((k : Int) < 0) = false := by simp
  have q2 : ((k : Int) == 0) = false := by simp; omega
  go_enter Try.func8, Try.ntmps8
  go_upto_region 1 with (fail)
  generalize w.alloc (.cells (acells false k) 27) = w0 at *
  have HP := Lib.hid (putNumber_any none 0 0 [] 2 2 (by decide) k (by omega) w0 Rd.nil (by omega))
  go_wp2_with fail
  refine HP.out.mono ?_
  rintro e w2 ⟨A2, n2, k2, rfl, hr, hc2, hb⟩
  have HB2 := Lib.hid (HB.out.trans (hb.mono HB.out.size))
  have HR := Lib.hid hr
  clear hr hb HP c0 c1 q1 q2
  go_wp2_with fail
  go_ret2
  exact ⟨A2, n2, k2, rfl, HR.out, hc2, HB2.out⟩

set_option maxRecDepth 100000 in
theorem long_any (z : Int) (seq tm : Nat) (den : List UInt8) (amt : Nat) (frm dst : List UInt8) (w : World) (a b c : Nat) (ha : den.length = a) (hb : frm.length = b) (hc : dst.length = c) (a1 : a ≤ 140737488355328) (b1 : b ≤ 140737488355328) (c1 : c ≤ 140737488355328) :
    Calls Try.prog 6 #[.agg (pcells z seq tm den amt frm dst)] w fun e w' => e = .returned (.bool (decide (3000 < a + b + c))) ∧ Below w.heap.size w w' := by
  have hw := Whole.made w 24 (pcells z seq tm den amt frm dst)
  obtain ⟨_, _, _, c3, _, c5, c6⟩ := pbox hw
  have hbl : Below w.heap.size w (w.alloc (.cells (pcells z seq tm den amt frm dst) 24)) := (Below.refl _ _).alloc (Nat.le_refl _) _
  have HB := Lib.hid hbl
  have e1 : (⟨den.toArray⟩ : ByteArray).size = a := ha
  have e2 : (⟨frm.toArray⟩ : ByteArray).size = b := hb
  have e3 : (⟨dst.toArray⟩ : ByteArray).size = c := hc
  clear hbl hw ha hb hc
  have q : decide (3000 < (a : Int) + b + c) = decide (3000 < a + b + c) := by
    congr 1
    apply propext
    omega
  go_enter Try.func6, Try.ntmps6
  go_upto_region 1 with (fail)
  generalize w.alloc (.cells (pcells z seq tm den amt frm dst) 24) = w0 at *
  go_wp2_with fail
  go_ret
  exact ⟨rfl, HB.out⟩
end Go.Proofs.Ytjepbnhlnomhlaa
