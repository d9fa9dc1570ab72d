/-
  What parcel's put, putNumber, putText and tooLong return; conditions: what is handed over is read, and no longer than memory can be; a field's bytes are no more than 65535. They only make memory of their own.
-/
import Derived.Test.YtjepbnhlnomhlaaNum
import Derived.Lib.ConvBytes
namespace Go.Proofs.Ytjepbnhlnomhlaa
open Go.RowKit

set_option maxRecDepth 100000 in
theorem putF_any (A : Option Addr) (n c : Nat) (bs : List UInt8) (z : Int) (tag : UInt8) (hz : z = tag.toNat) (A2 : Option Addr) (m c2 : Nat) (vs : List UInt8) (w : World) (hr : Rd w w.heap.size A n bs) (hr2 : Rd w w.heap.size A2 m vs) (hn : n ≤ 70368744111616) (hm : m ≤ 65535) :
    Calls Try.prog 27 #[.slice A n c, .int .u8 z, .slice A2 m c2] w (BytesPost w (Tlv.put bs tag vs)) := by
  have HP := Lib.hid (put_int A n c bs z tag hz A2 m c2 vs w hr hr2 hn hm)
  clear hr hr2 hz
  go_enter Try.func27, Try.ntmps27
  go_wp2_with fail
  refine HP.out.mono ?_
  rintro e w1 ⟨A1, n1, c1, rfl, hr, hc, _, hb⟩
  have HH := Lib.hid (And.intro hr (And.intro hc hb))
  clear hr hc hb HP
  go_wp2_with fail
  go_ret
  exact ⟨A1, n1, c1, rfl, HH.out.1, HH.out.2.1, HH.out.2.2⟩

set_option maxRecDepth 100000 in
theorem putNumber_any (A : Option Addr) (n c : Nat) (bs : List UInt8) (z : Int) (tag : UInt8) (hz : z = tag.toNat) (x : Nat) (hx : x < 18446744073709551616) (w : World) (hr : Rd w w.heap.size A n bs) (hn : n ≤ 70368744111616) :
    Calls Try.prog 16 #[.slice A n c, .int .u8 z, .int .u64 x] w (BytesPost w (Tlv.put bs tag (Tlv.num x))) := by
  have HR := Lib.hid hr
  have HZ := Lib.hid hz
  have H8 := Lib.hid (Tlv.num_len8 x hx)
  clear hr hz
  go_enter Try.func16, Try.ntmps16
  go_wp2_with fail
  refine (num_any x hx w).mono ?_
  rintro e w1 ⟨A1, n1, c1, rfl, hr, hc, hb⟩
  have hn1 : n1 ≤ 65535 := by have := H8.out; rw [hr.len] at this; omega
  have HP := Lib.hid (putF_any A n c bs z tag HZ.out A1 n1 c1 _ w1 ((HR.out.below hb (Nat.le_refl _)).more hb.size) hr hn hn1)
  have HB := Lib.hid hb
  clear hr hc hb hn1
  go_wp2_with fail
  refine HP.out.mono ?_
  rintro e w2 ⟨A2, n2, c2, rfl, hr, hc, hb⟩
  have HH := Lib.hid (And.intro hr (And.intro hc (HB.out.trans (hb.mono HB.out.size))))
  clear hr hc hb HP
  go_wp2_with fail
  go_ret
  exact ⟨A2, n2, c2, rfl, HH.out.1, HH.out.2.1, HH.out.2.2⟩

/-- []byte(s) of a string: bytes in a new row. -/
theorem conv_new (w : World) (bs : List UInt8) : ∃ c w', (convert 9 35 (.string ⟨bs.toArray⟩)).run Try.prog w = .ok (.slice (some ⟨w.heap.size, 0, none⟩) bs.length c) w' ∧ Rd w' w'.heap.size (some ⟨w.heap.size, 0, none⟩) bs.length bs ∧ Below w.heap.size w w' := by
  have hrun := Lib.run_convert_string_bytes (P := Try.prog) w 9 35 5 ⟨bs.toArray⟩ Try.underlying9 Try.underlying35 Try.underlying5
  refine ⟨_, _, hrun, ?_, ?_⟩
  · refine Rd.mk_ rfl _ _ (by rw [Lib.bytesWorld_size]; omega) fun j v hv => ?_
    have hj : j < bs.length := (List.getElem?_eq_some_iff.1 hv).1
    rw [Nat.zero_add, Lib.bytesWorld_cell w 5 ⟨bs.toArray⟩ j hj]
    simp [List.getD, hv, V8]
  · exact ⟨rfl, rfl, rfl, by rw [Lib.bytesWorld_size]; omega, fun k hk => Lib.bytesWorld_at_old w 5 _ k hk⟩

set_option maxRecDepth 100000 in
theorem putText_any (A : Option Addr) (n c : Nat) (bs : List UInt8) (z : Int) (tag : UInt8) (hz : z = tag.toNat) (s : List UInt8) (hs : s.length ≤ 65535) (w : World) (hr : Rd w w.heap.size A n bs) (hn : n ≤ 70368744111616) :
    Calls Try.prog 17 #[.slice A n c, .int .u8 z, .string ⟨s.toArray⟩] w (BytesPost w (Tlv.put bs tag s)) := by
  obtain ⟨c1, w1, hcv, hr1, hb⟩ := conv_new w s
  have HP := Lib.hid (putF_any A n c bs z tag hz _ _ c1 _ w1 ((hr.below hb (Nat.le_refl _)).more hb.size) hr1 hn hs)
  obtain ⟨m, hm⟩ : ∃ m, s.length = m := ⟨_, rfl⟩
  rw [hm] at hcv HP
  have HB := Lib.hid hb
  clear hr hz hb hr1 hm hs
  go_enter Try.func17, Try.ntmps17
  go_wp2_with fail
  refine HP.out.mono ?_
  rintro e w2 ⟨A2, n2, c2, rfl, hr, hc, hb⟩
  have HH := Lib.hid (And.intro hr (And.intro hc (HB.out.trans (hb.mono HB.out.size))))
  clear hr hc hb HP hcv
  go_wp2_with fail
  go_ret
  exact ⟨A2, n2, c2, rfl, HH.out.1, HH.out.2.1, HH.out.2.2⟩

set_option maxRecDepth 100000 in
theorem tooLong_no (b : Nat) (c : Nat) (ss : List (List UInt8)) (n : Nat) (hn : ss.length = n) (hn4 : n ≤ 4) (w : World) (hc : ∀ j s, ss[j]? = some s → w.cell? ⟨b, j, none⟩ = some (.string ⟨s.toArray⟩) ∧ s.length ≤ 65535) :
    Calls Try.prog 15 #[.slice (some ⟨b, 0, none⟩) n c] w fun e w' => e = .returned (.bool false) ∧ w = w' := by
  have HC := Lib.hid hc
  have HN := Lib.hid hn
  clear hc hn
  go_enter Try.func15, Try.ntmps15
  go_wp2_with fail
  go_loop [7] (fun i => ∃ k : Nat, k ≤ n ∧ i = .int .i64 k) (fun i => n - (intOf i).toNat)
  case atStart => exact ⟨0, Nat.zero_le _, rfl⟩
  case round =>
    obtain ⟨k, hk, rfl⟩ := hrel
    by_cases hlt : k < n
    · obtain ⟨s, hs⟩ : ∃ s, ss[k]? = some s := ⟨ss[k]'(by rw [HN.out]; exact hlt), List.getElem?_eq_getElem _⟩
      obtain ⟨hcell, hl⟩ := HC.out k s hs
      obtain ⟨m, hm⟩ : ∃ m, (⟨s.toArray⟩ : ByteArray).size = m := ⟨_, rfl⟩
      have hml : m ≤ 65535 := by rw [← hm]; exact hl
      have q1 : decide (65535 < (m : Int)) = false := by simp; omega
      clear hl hs
      go_wp2_with fail
      go_round
      case rel => exact ⟨k + 1, by omega, by go_num⟩
      case measure => simp [intOf]; omega
    · obtain rfl : k = n := by omega
      go_wp2_with fail
      go_ret
      exact ⟨rfl, rfl⟩
end Go.Proofs.Ytjepbnhlnomhlaa
