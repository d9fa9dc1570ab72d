/-
  The law EpochNil returns true for any numbers; condition: the table holds its words.
-/
import Derived.Test.YtbhmldoehgkhfaaDoorLogA
namespace Go.Proofs.YtbhmldoehgkhfaaDoor
open Go.RowKit
open Tr

set_option maxRecDepth 100000 in
set_option maxHeartbeats 1000000 in
theorem epochNil_any (n : UInt64) (keep : UInt8) (w : World) (ht : Sh.Tab w 1) (hw : 1 < w.heap.size) : Calls Tryd.prog 8 #[.int .u64 n.toNat, .int .u8 keep.toNat] w fun e w' => e = .returned (.bool true) ∧ Below w.heap.size w w' := by
  have HAW := Lib.hid (awake6_any w ht hw)
  have hkl := keep.toNat_lt
  have hnl := n.toNat_lt
  obtain ⟨N, hN⟩ : ∃ N, n.toNat = N := ⟨_, rfl⟩
  obtain ⟨Q, hQ⟩ : ∃ Q, keep.toNat = Q := ⟨_, rfl⟩
  rw [hN] at hnl ⊢
  rw [hQ] at hkl ⊢
  clear hN hQ ht
  obtain ⟨K, hK⟩ : ∃ K, K = 1 + Q % 64 := ⟨_, rfl⟩
  have HKK := Lib.hid hK
  clear hK
  go_enter Tryd.func8, Tryd.ntmps8
  go_wp2_with fail
  refine HAW.out.mono ?_
  rintro e w1 ⟨rfl, hb1⟩
  have hs1 := hb1.size
  have HB1 := Lib.hid hb1
  have HN1 := Lib.hid (new_any (G := All) w1 (room (by omega)))
  clear hb1 HAW
  go_wp2_with fail
  refine HN1.out.mono ?_
  rintro e w2 ⟨g, rfl, _, _, hb2⟩
  have hs2 := hb2.size
  have HB2 := Lib.hid (HB1.out.trans (hb2.mono hs1))
  have HC := Lib.hid (commit_nolog w2 (some ⟨g, 0, none⟩))
  rw [ptr_some]
  clear hb2 HN1 HB1
  go_wp2_with fail
  refine HC.out.mono ?_
  rintro e w3 ⟨rfl, rfl⟩
  have HA := Lib.hid (at_nolog w2 N)
  clear HC
  go_wp2_with fail
  refine HA.out.mono ?_
  rintro e w3 ⟨rfl, rfl⟩
  clear HA
  go_wp2_with fail
  rw [show (1 : Int) + (Q : Int) % 64 = (K : Int) by rw [HKK.out]; omega]
  refine (lnew_ok K (by rw [HKK.out]; omega) (by rw [HKK.out]; omega) w2).mono ?_
  rintro e w3 ⟨l, rfl, hl, hL, hb3⟩
  have HL := Lib.hid hL
  have HB3 := Lib.hid (HB2.out.trans (hb3.mono (by omega)))
  have HC := Lib.hid (commit_notree w3 l)
  clear hL hb3 HB2
  rw [ptr_some] at HC ⊢
  go_wp2_with fail
  refine HC.out.mono ?_
  rintro e w4 ⟨rfl, rfl⟩
  have HN := Lib.hid (last_nil w3)
  have HR := Lib.hid (roots_nolog w3)
  have HA := Lib.hid (last_any w3 l K 0 [] HL.out)
  rw [ptr_some] at HA
  clear HC
  go_wp2_with fail
  refine HN.out.mono ?_
  rintro e w4 ⟨rfl, rfl⟩
  go_wp2_with fail
  refine HR.out.mono ?_
  rintro e w4 ⟨rfl, rfl⟩
  go_wp2_with fail
  refine HA.out.mono ?_
  rintro e w4 ⟨rfl, rfl⟩
  go_wp2_with fail
  go_ret
  exact ⟨rfl, HB3.out⟩
end Go.Proofs.YtbhmldoehgkhfaaDoor
