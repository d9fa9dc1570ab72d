/-
  The law TreeNil returns true for any bytes and way; conditions: they are read, the table holds its words.
-/
import Derived.Test.YtceillnmcccckaaDoorSame
namespace Go.Proofs.YtceillnmcccckaaDoor
open Go.RowKit
open Tr

theorem sameZ (w : World) : Calls Tryd.prog 32 #[.agg z64, .agg z64] w fun e w' => e = .returned (.bool true) ∧ Below w.heap.size w w' :=
  sameNode_yes none none none none 0 0 0 0 0 0 0 0 0 0 z32 z32 [] [] w rfl rfl Rd.nil Rd.nil Rd.nil Rd.nil

set_option maxRecDepth 100000 in
set_option maxHeartbeats 1000000 in
theorem treeNil_any (A A' W : Option Addr) (n c n' c' m d : Nat) (k : List UInt8) (way : List Bool) (w : World) (hk : Rd w w.heap.size A n k) (hway : RdV w w.heap.size 1 W m (way.map Value.bool)) (hm : m ≤ 9223372036854775807) (ht : Sh.Tab w 1) (hw : 1 < w.heap.size) :
    Calls Tryd.prog 8 #[.slice A n c, .slice A' n' c', .slice W m d] w fun e w' => e = .returned (.bool true) ∧ Below w.heap.size w w' := by
  have HAW := Lib.hid (awake_any w ht hw)
  have HK := Lib.hid hk
  have HWAY := Lib.hid hway
  have HT := Lib.hid ht
  clear hk hway ht
  go_enter Tryd.func8, Tryd.ntmps8
  go_wp2_with fail
  refine HAW.out.mono ?_
  rintro e w1 ⟨rfl, hb1⟩
  have hs1 := hb1.size
  have HC1 := Lib.hid (put_nil A A' n c n' c' w1)
  have HB1 := Lib.hid hb1
  clear hb1 HAW
  go_wp2_with fail
  refine HC1.out.mono ?_
  rintro e w2 ⟨rfl, rfl⟩
  have HC2 := Lib.hid (cut_any (G := All) none none A n c k w1 rfl ((HK.out.below HB1.out (Nat.le_refl _)).more HB1.out.size) (by show 0 ≤ _; omega) (Sh.tab_below HT.out HB1.out hw) (room (by omega)))
  rw [ptr_none] at HC2
  clear HC1
  go_wp2_with fail
  refine HC2.out.mono ?_
  rintro e w2 hpost
  rcases hpost with ⟨_, rfl, rfl⟩ | ⟨_, _, h, _⟩
  rotate_left
  · cases h
  have HC3 := Lib.hid (get_any (G := All) none none A n c k w1 rfl ((HK.out.below HB1.out (Nat.le_refl _)).more HB1.out.size))
  rw [ptr_none] at HC3 ⊢
  clear HC2
  go_wp2_with fail
  refine HC3.out.mono ?_
  rintro e w2 hpost
  rcases hpost with ⟨_, rfl, rfl⟩ | ⟨_, _, _, _, h, _⟩
  rotate_left
  · cases h
  have HC4 := Lib.hid (way_any (G := All) none none W m d way w1 rfl ((HWAY.out.below HB1.out (Nat.le_refl _)).more HB1.out.size) hm)
  rw [ptr_none] at HC4
  clear HC3
  go_wp2_with fail
  refine HC4.out.mono ?_
  rintro e w2 hpost
  rcases hpost with ⟨_, rfl, hb2⟩ | ⟨_, _, _, _, _, _, _, _, h, _⟩
  rotate_left
  · rw [show topOf none = none from rfl, oat_none] at h; cases h
  have hs2 := hb2.size
  have HB2 := Lib.hid (HB1.out.trans (hb2.mono hs1))
  clear hb2 HC4 HB1
  simp only []
  have hz64 := zero64
  iterate 13 go_step
  have hw4 := Whole.made w2 64 z64
  refine wpList_store_mid rfl 64 (.tmp 14) (.tmp 41) rfl w2.heap.size 0 z64 rfl rfl ?_ ?_ z64_one ?_
  · exact hw4.there_
  · rw [z64_size]; exact info64
  have hw5 := hw4.setAll (vs := z64) rfl
  have hb5 : Below w2.heap.size w2 ((w2.alloc (.cells z64 64)).setCells w2.heap.size 0 z64.toList) := below_setCells w2 w2.heap.size _ 0 ((Below.refl _ _).alloc (Nat.le_refl _) _) (Nat.le_refl _)
  generalize (w2.alloc (.cells z64 64)).setCells w2.heap.size 0 z64.toList = w5 at *
  have hs5 : w2.heap.size < w5.heap.size := hw5.lt
  have HB5 := Lib.hid (HB2.out.trans (hb5.mono (by omega)))
  have HW5 := Lib.hid hw5
  clear hw4 hw5 hb5 HB2
  generalize w2.heap.size = gn at *
  go_upto_region 8 with (fail)
  refine wp_region_lit ?_
  iterate 71 go_step
  refine wpList_load_w rfl 64 (.tmp 14) rfl gn 0 rfl _ _ HW5.out.range Tryd.underlying64 rfl (by rw [Array.length_toList, z64_size]; exact info64) ?_
  rw [show z64.toList.toArray = z64 from rfl]
  have HC6 := Lib.hid (sameZ w5)
  go_wp2_with fail
  refine HC6.out.mono ?_
  rintro e w6 ⟨rfl, hb6⟩
  have hs6 := hb6.size
  have HB6 := Lib.hid (HB5.out.trans (hb6.mono (by omega)))
  have HC7 := Lib.hid (root_any (G := All) none none w6 rfl (Sh.tab_below HT.out HB6.out hw) (by omega))
  rw [ptr_none] at HC7
  clear hb6 HC6 HB5 HW5
  go_wp2_with fail
  refine HC7.out.mono ?_
  rintro e w7 ⟨rfl, hb7⟩
  have hs7 := hb7.size
  have HB7 := Lib.hid (HB6.out.trans (hb7.mono (by omega)))
  have HC8 := Lib.hid (empty_any w7 (Sh.tab_below HT.out HB7.out hw) (by omega))
  clear hb7 HC7 HB6
  rw [show osum (topOf none) = Sh.Sha.sum [] from rfl]
  go_wp2_with fail
  refine HC8.out.mono ?_
  rintro e w8 ⟨rfl, hb8⟩
  have hs8 := hb8.size
  have HB8 := Lib.hid (HB7.out.trans (hb8.mono (by omega)))
  have e1 := run_eq49 (Sh.Sha.sum []) (Sh.Sha.sum []) (Sh.sum_length _) (Sh.sum_length _) w8
  rw [show (Sh.Sha.sum [] == Sh.Sha.sum []) = true by simp] at e1
  generalize Sh.bcells (Sh.Sha.sum []) = Y at *
  have HC9 := Lib.hid (len_any (G := All) none none w8 rfl (by show 0 ≤ _; omega))
  rw [ptr_none] at HC9
  clear hb8 HC8 HB7
  go_wp2_with fail
  refine HC9.out.mono ?_
  rintro e w9 ⟨rfl, rfl⟩
  rw [show (oln (topOf none) : Nat) = 0 from rfl]
  have HC10 := Lib.hid (all_nil w8)
  clear HC9
  go_wp2_with fail
  refine HC10.out.mono ?_
  rintro e w9 ⟨rfl, hb9⟩
  have hs9 := hb9.size
  have HB9 := Lib.hid (HB8.out.trans (hb9.mono (by omega)))
  have HC11 := Lib.hid (nodes_nil w9)
  clear hb9 HC10 HB8 e1
  go_wp2_with fail
  refine HC11.out.mono ?_
  rintro e w10 ⟨rfl, hb10⟩
  have HB10 := Lib.hid (HB9.out.trans (hb10.mono (by omega)))
  clear hb10 HC11 HB9
  go_wp2_with fail
  go_ret
  exact ⟨rfl, HB10.out⟩
end Go.Proofs.YtceillnmcccckaaDoor
