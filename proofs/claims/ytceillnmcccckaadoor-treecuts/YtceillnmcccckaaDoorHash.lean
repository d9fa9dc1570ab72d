/-
  What tree.Hash returns for a leaf: the sum of the text that the chapter gives; conditions: its bytes are read, the table holds its words. It only makes memory of its own.
-/
import Derived.Test.YtceillnmcccckaaDoorSize
import Derived.Deep.RegionHeld3
namespace Go.Proofs.YtceillnmcccckaaDoor
open Go.RowKit
open Tr

theorem u8_len (n : Nat) : IntKind.u8.wrap (n : Int) = ((UInt8.ofNat n).toNat : Int) := by
  simp [IntKind.wrap, IntKind.bits, IntKind.signed]
/-- The cells of a boxed node. -/
theorem abox {w : World} {g : Nat} {t : TypeId} {kv vv : Value} {h : Int} {z : Nat} {l r : List UInt8} (hw : Whole w g t (acells kv vv h z l r).toArray) :
    w.cell? ⟨g, 0, none⟩ = some kv ∧ w.cell? ⟨g, 1, none⟩ = some vv ∧ w.cell? ⟨g, 2, none⟩ = some (.int .i64 h) ∧ w.cell? ⟨g, 3, none⟩ = some (.int .u64 z) :=
  ⟨hw.at_ rfl, hw.at_ rfl, hw.at_ rfl, hw.at_ rfl⟩

set_option maxRecDepth 100000 in
set_option maxHeartbeats 1000000 in
theorem hash_leaf (A : Option Addr) (n c : Nat) (A' : Option Addr) (n' c' : Nat) (z : Nat) (l r k v : List UInt8) (w : World) (hk : Rd w w.heap.size A n k) (hv : Rd w w.heap.size A' n' v) (hnc : n ≤ c) (hnc' : n' ≤ c') (hn : n ≤ 100000) (hn' : n' ≤ 100000)
    (ht : Sh.Tab w 1) (hw : 1 < w.heap.size) :
    Calls Tryd.prog 34 #[.agg (acells (.slice A n c) (.slice A' n' c') 0 z l r).toArray] w fun e w' => e = .returned (.agg (Sh.bcells (Sh.Sha.sum (leafText k v)))) ∧ Below w.heap.size w w' := by
  have hz49 := zero49
  have HK := Lib.hid hk
  have HV := Lib.hid hv
  have HT := Lib.hid ht
  clear hk hv ht
  go_enter Tryd.func34, Tryd.ntmps34
  go_upto_region 1 with (fail)
  clear hz49
  have hb : Below w.heap.size w ((w.alloc (.cells (acells (.slice A n c) (.slice A' n' c') 0 z l r).toArray 64)).alloc (.cells (zb 32) 49)) := ((Below.refl _ _).alloc (Nat.le_refl _) _).alloc (by simp) _
  have hw1 := (Whole.made w 64 (acells (.slice A n c) (.slice A' n' c') 0 z l r).toArray).alloc (.cells (zb 32) 49)
  have hw2 := Whole.made (w.alloc (.cells (acells (.slice A n c) (.slice A' n' c') 0 z l r).toArray 64)) 49 (zb 32)
  rw [size_alloc] at hw2
  have hs : w.heap.size + 1 < ((w.alloc (.cells (acells (.slice A n c) (.slice A' n' c') 0 z l r).toArray 64)).alloc (.cells (zb 32) 49)).heap.size := by simp
  generalize (w.alloc (.cells (acells (.slice A n c) (.slice A' n' c') 0 z l r).toArray 64)).alloc (.cells (zb 32) 49) = w1 at *
  obtain ⟨c0, c1, c2, c3⟩ := abox hw1
  have hv1 := HV.out.below hb (Nat.le_refl _)
  have hba : Below w.heap.size w (w1.alloc (.cells #[.slice A' n' c'] 27)) := hb.alloc hb.size _
  have hsum := Sh.sum_any _ 1 1 [v] _ (Sh.parts_one w1 27 A' n' c' _ (reads_of_rd hv1 hb.size) hnc' (by omega)) (by omega) (Sh.tab_below HT.out hba hw) (by simp; omega)
  rw [show [v].flatten = v by simp] at hsum
  have HSUM := Lib.hid hsum
  have HB := Lib.hid hb
  have HW1 := Lib.hid hw1
  have HW2 := Lib.hid hw2
  clear hb hw1 hw2 hv1 hba hsum c3
  generalize (acells (.slice A n c) (.slice A' n' c') 0 z l r).toArray = X at *
  go_wp2_with fail
  refine HSUM.out.mono ?_
  rintro e w2 ⟨rfl, hb2⟩
  have hsz : (w1.alloc (.cells #[.slice A' n' c'] 27)).heap.size = w1.heap.size + 1 := size_alloc _ _
  have hbx : Below w1.heap.size w1 w2 := ((Below.refl _ _).alloc (Nat.le_refl _) _).trans (hb2.mono (by omega))
  have HBX := Lib.hid hbx
  clear hb2 HSUM hsz hbx
  obtain ⟨S, hS⟩ : ∃ S, Sh.Sha.sum v = S := ⟨_, rfl⟩
  have hS32 : S.length = 32 := by rw [← hS]; exact Sh.sum_length _
  rw [hS]
  have HS := Lib.hid (And.intro hS hS32)
  clear hS hS32
  simp only []
  have hz49 := zero49
  iterate 4 go_step
  clear hz49
  have hw3 := Whole.made w2 49 (zb 32)
  have hsizeS : (Sh.bcells S).size = 32 := (Sh.bcells_size S).trans HS.out.2
  refine wpList_store_mid rfl 49 (.tmp 3) (.tmp 10) rfl w2.heap.size 0 (Sh.bcells S) rfl rfl ?_ ?_ (Sh.bcells_one S) ?_
  · rw [hsizeS]; have := hw3.there_; rw [zb_size] at this; exact this
  · rw [hsizeS]; exact info49
  have hw4 := hw3.setAll (vs := Sh.bcells S) (by rw [zb_size, hsizeS])
  have hb4 : Below w1.heap.size w1 ((w2.alloc (.cells (zb 32) 49)).setCells w2.heap.size 0 (Sh.bcells S).toList) := below_setCells w1 w2.heap.size _ 0 (HBX.out.alloc HBX.out.size _) HBX.out.size
  have hs4 : w1.heap.size ≤ w2.heap.size := HBX.out.size
  have hlt4 : w2.heap.size < ((w2.alloc (.cells (zb 32) 49)).setCells w2.heap.size 0 (Sh.bcells S).toList).heap.size := by rw [size_setCells, size_alloc]; omega
  generalize (w2.alloc (.cells (zb 32) 49)).setCells w2.heap.size 0 (Sh.bcells S).toList = w4 at *
  have d0 : w4.cell? ⟨w.heap.size, 0, none⟩ = some (.slice A n c) := by rw [hb4.cell (p := ⟨w.heap.size, 0, none⟩) (by show w.heap.size < _; omega)]; exact c0
  have HB4 := Lib.hid (HB.out.trans (hb4.mono HB.out.size))
  have HW4 := Lib.hid hw4
  have HR4 := Lib.hid (HW2.out.below hb4 hs)
  generalize w2.heap.size = g3 at *
  clear hw3 hsizeS hw4 hb4 HBX HW2 HB HW1 c0 c1 c2
  go_upto_region 3 with (fail)
  have hS0 : w4.drew.cell? ⟨w.heap.size, 0, none⟩ = some (.slice A n c) := d0
  refine wp_region_held_drew (S := fun w' => w'.cell? ⟨w.heap.size, 0, none⟩ = some (.slice A n c)) (by kernel_rfl) hS0 (fun hHeld => ?_)
  refine wpAnyH_take (i := 0) (oi := { dst := some 11, op := Op.fieldAddr 64 (Operand.tmp 1) 0, type := 0, pos := "tree.go:27", after := #[], guard := none }) (v := ?_) rfl (by kernel_rfl) (by kernel_rfl) (by kernel_rfl) (fun _ _ _ h => h) (Or.inl ⟨by rfl, ?_⟩) (by assumption) ?_
  rotate_left
  · first | (intro w hSw; (try dsimp only at hSw); go_simp; done) | (intro w hSw; (try dsimp only at hSw); go_simp; with_reducible rfl)
  simp only [Act.put, List.setIfInBounds_toArray, List.set_cons_zero, List.set_cons_succ]
  refine wpAnyH_take (i := 1) (oi := { dst := some 12, op := Op.load 27 (Operand.tmp 11), type := 27, pos := "tree.go:27", after := #[{ on := 0, ground := Ground.data }], guard := none }) (v := ?_) rfl (by kernel_rfl) (by kernel_rfl) (by kernel_rfl) (fun _ _ _ h => h) (Or.inl ⟨by rfl, ?_⟩) (by assumption) ?_
  rotate_left
  · first | (intro w hSw; (try dsimp only at hSw); go_simp; done) | (intro w hSw; (try dsimp only at hSw); go_simp; with_reducible rfl)
  simp only [Act.put, List.setIfInBounds_toArray, List.set_cons_zero, List.set_cons_succ]
  refine wpAnyH_take (i := 2) (oi := { dst := some 13, op := Op.call { callee := Callee.builtin Builtin.len, args := #[Operand.tmp 12], argTypes := #[27] }, type := 3, pos := "tree.go:27", after := #[{ on := 1, ground := Ground.data }], guard := none }) (v := ?_) rfl (by kernel_rfl) (by kernel_rfl) (by kernel_rfl) (fun _ _ _ h => h) (Or.inl ⟨by rfl, ?_⟩) (by assumption) ?_
  rotate_left
  · first | (intro w hSw; (try dsimp only at hSw); go_simp; done) | (intro w hSw; (try dsimp only at hSw); go_simp; with_reducible rfl)
  simp only [Act.put, List.setIfInBounds_toArray, List.set_cons_zero, List.set_cons_succ]
  refine wpAnyH_take (i := 3) (oi := { dst := some 14, op := Op.convert 3 5 (Operand.tmp 13), type := 5, pos := "tree.go:27", after := #[{ on := 2, ground := Ground.data }], guard := none }) (v := ?_) rfl (by kernel_rfl) (by kernel_rfl) (by kernel_rfl) (fun _ _ _ h => h) (Or.inl ⟨by rfl, ?_⟩) (by assumption) ?_
  rotate_left
  · first | (intro w hSw; (try dsimp only at hSw); go_simp; done) | (intro w hSw; (try dsimp only at hSw); go_simp; with_reducible rfl)
  simp only [Act.put, List.setIfInBounds_toArray, List.set_cons_zero, List.set_cons_succ]
  refine wpAnyH_take (i := 5) (oi := { dst := some 16, op := Op.fieldAddr 64 (Operand.tmp 1) 0, type := 0, pos := "tree.go:27", after := #[], guard := none }) (v := ?_) rfl (by kernel_rfl) (by kernel_rfl) (by kernel_rfl) (fun _ _ _ h => h) (Or.inl ⟨by rfl, ?_⟩) (by assumption) ?_
  rotate_left
  · first | (intro w hSw; (try dsimp only at hSw); go_simp; done) | (intro w hSw; (try dsimp only at hSw); go_simp; with_reducible rfl)
  simp only [Act.put, List.setIfInBounds_toArray, List.set_cons_zero, List.set_cons_succ]
  refine wpAnyH_take (i := 6) (oi := { dst := some 17, op := Op.load 27 (Operand.tmp 16), type := 27, pos := "tree.go:27", after := #[{ on := 5, ground := Ground.data }], guard := none }) (v := ?_) rfl (by kernel_rfl) (by kernel_rfl) (by kernel_rfl) (fun _ _ _ h => h) (Or.inl ⟨by rfl, ?_⟩) (by assumption) ?_
  rotate_left
  · first | (intro w hSw; (try dsimp only at hSw); go_simp; done) | (intro w hSw; (try dsimp only at hSw); go_simp; with_reducible rfl)
  simp only [Act.put, List.setIfInBounds_toArray, List.set_cons_zero, List.set_cons_succ]
  refine wpAnyH_take (i := 7) (oi := { dst := some 18, op := Op.slice 49 (Operand.tmp 3) none none none, type := 27, pos := "tree.go:27", after := #[], guard := none }) (v := ?_) rfl (by kernel_rfl) (by kernel_rfl) (by kernel_rfl) (fun _ _ _ h => h) (Or.inl ⟨by rfl, ?_⟩) (by assumption) ?_
  rotate_left
  · first | (intro w hSw; (try dsimp only at hSw); go_simp; done) | (intro w hSw; (try dsimp only at hSw); go_simp; with_reducible rfl)
  simp only [Act.put, List.setIfInBounds_toArray, List.set_cons_zero, List.set_cons_succ]
  refine wpAnyH_ready (rs := [4]) (by kernel_rfl) (by simp) ?_
  refine AllReadyH.cons rfl (fun K hK => ?_) AllReadyH.nil
  go_simp
  have hb5 : Below w4.heap.size w4 (w4.alloc (.cells #[.int .u8 0, .int .u8 (IntKind.u8.wrap (n : Int))] 5)).drew := ((Below.refl _ _).alloc (Nat.le_refl _) _).drew
  have hr5 : Rd (w4.alloc (.cells #[.int .u8 0, .int .u8 (IntKind.u8.wrap (n : Int))] 5)).drew (w4.heap.size + 1) (some ⟨w4.heap.size, 0, none⟩) 2 [0, UInt8.ofNat n] :=
    rd_new w4 5 [0, UInt8.ofNat n] 2 rfl _ (by rw [u8_len]; rfl)
  have hsz5 : (w4.alloc (.cells #[.int .u8 0, .int .u8 (IntKind.u8.wrap (n : Int))] 5)).drew.heap.size = w4.heap.size + 1 := size_alloc _ _
  generalize (w4.alloc (.cells #[.int .u8 0, .int .u8 (IntKind.u8.wrap (n : Int))] 5)).drew = w5 at *
  have d5 : w5.cell? ⟨w.heap.size, 0, none⟩ = some (.slice A n c) := by rw [hb5.cell (p := ⟨w.heap.size, 0, none⟩) (by show w.heap.size < _; omega)]; exact d0
  have HW5 := Lib.hid (HW4.out.below hb5 hlt4)
  have HR5 := Lib.hid (HR4.out.below hb5 (by omega))
  have HB5 := Lib.hid (HB4.out.trans (hb5.mono HB4.out.size))
  have HRD5 := Lib.hid hr5
  have hgg : w4.heap.size < w5.heap.size := by omega
  refine hK.out _ _ d5 (fun _ => ?_)
  clear hK K hHeld hS0 d0 HW4 HR4 HB4 hb5 hr5 hsz5
  generalize w4.heap.size = g4 at *
  refine wpAnyH_ready (rs := [8]) (by kernel_rfl) (by simp) ?_
  refine AllReadyH.cons rfl (fun K hK => ?_) AllReadyH.nil
  go_simp
  have hb6 : Below w5.heap.size w5 (w5.alloc (.cells #[.slice (some ⟨g4, 0, none⟩) 2 2, .slice A n c, .slice (some ⟨g3, 0, none⟩) 32 32] 27)) := (Below.refl _ _).alloc (Nat.le_refl _) _
  have hp6 := Sh.parts_three w5 27 (some ⟨g4, 0, none⟩) A (some ⟨g3, 0, none⟩) 2 n 32 2 c 32 [0, UInt8.ofNat n] k S (reads_of_rd HRD5.out hgg) (reads_of_rd (HK.out.below HB5.out (Nat.le_refl _)) HB5.out.size)
    (reads_of_rd (B := w5.heap.size) (Rd.mk_ HS.out.2 g3 0 HW5.out.lt fun j u hu => HW5.out.at_ (by rw [Nat.zero_add, Sh.bcells, List.getElem?_toArray, List.getElem?_map, hu]; rfl)) (Nat.le_refl _)) (Nat.le_refl _) hnc (Nat.le_refl _) (by omega) (by omega) (by omega)
  have HB6 := Lib.hid (HB5.out.trans (hb6.mono HB5.out.size))
  have hsz6 : (w5.alloc (.cells #[.slice (some ⟨g4, 0, none⟩) 2 2, .slice A n c, .slice (some ⟨g3, 0, none⟩) 32 32] 27)).heap.size = w5.heap.size + 1 := size_alloc _ _
  have hsum := Sh.sum_any _ 3 3 _ _ hp6 (by omega) (Sh.tab_below HT.out HB6.out hw) (by omega)
  have htxt : [[0, UInt8.ofNat n], k, S].flatten = leafText k v := by
    rw [leafText, HS.out.1, HK.out.len]; simp
  rw [htxt] at hsum
  have HSUM := Lib.hid hsum
  have hg6 : w.heap.size + 1 < (w5.alloc (.cells #[.slice (some ⟨g4, 0, none⟩) 2 2, .slice A n c, .slice (some ⟨g3, 0, none⟩) 32 32] 27)).heap.size := by omega
  have HR6 := Lib.hid (HR5.out.below hb6 (by omega))
  have d6 : (w5.alloc (.cells #[.slice (some ⟨g4, 0, none⟩) 2 2, .slice A n c, .slice (some ⟨g3, 0, none⟩) 32 32] 27)).cell? ⟨w.heap.size, 0, none⟩ = some (.slice A n c) := by rw [hb6.cell (p := ⟨w.heap.size, 0, none⟩) (by show w.heap.size < _; omega)]; exact d5
  refine hK.out _ _ d6 (fun _ => ?_)
  clear hK K hp6 hb6 hsum htxt HRD5 d5 HW5 HR5 HB5 hsz6
  generalize w5.alloc (.cells #[.slice (some ⟨g4, 0, none⟩) 2 2, .slice A n c, .slice (some ⟨g3, 0, none⟩) 32 32] 27) = w6 at *
  refine wpAnyH_ready (rs := [9]) (by kernel_rfl) (by simp) ?_
  refine AllReadyH.cons rfl (fun K hK => ?_) AllReadyH.nil
  go_simp
  refine HSUM.out.mono ?_
  rintro e w7 ⟨rfl, hb7⟩
  have d7 : w7.cell? ⟨w.heap.size, 0, none⟩ = some (.slice A n c) := by rw [hb7.cell (p := ⟨w.heap.size, 0, none⟩) (by show w.heap.size < _; omega)]; exact d6
  have HR7 := Lib.hid (HR6.out.below hb7 (by omega))
  have HB7 := Lib.hid (HB6.out.trans (hb7.mono HB6.out.size))
  clear hb7 HSUM HR6 HB6 d6
  obtain ⟨Y, hY⟩ : ∃ Y, Sh.bcells (Sh.Sha.sum (leafText k v)) = Y := ⟨_, rfl⟩
  have hsizeY : Y.size = 32 := by rw [← hY, Sh.bcells_size, Sh.sum_length]
  have honeY : Y.all (·.oneCell') = true := by rw [← hY]; exact Sh.bcells_one _
  rw [hY]
  have HY := Lib.hid hY
  clear hY
  refine hK.out _ _ d7 (fun _ => ?_)
  clear hK K
  refine wpAnyH_ready (rs := [10]) (by kernel_rfl) (by simp) ?_
  refine AllReadyH.cons rfl (fun K hK => ?_) AllReadyH.nil
  refine Eq.mpr (if_pos (by rfl)) ?_
  refine wp_store_mid 49 (.tmp 2) (.tmp 20) rfl (w.heap.size + 1) 0 Y rfl rfl ?_ ?_ honeY ?_
  · rw [hsizeY]; have := HR7.out.there_; rw [zb_size] at this; exact this
  · rw [hsizeY]; exact info49
  have hw8 := HR7.out.setAll (vs := Y) (by rw [zb_size, hsizeY])
  have hb8 := below_setCells w (w.heap.size + 1) Y.toList 0 HB7.out (by omega)
  have d8 : (w7.setCells (w.heap.size + 1) 0 Y.toList).cell? ⟨w.heap.size, 0, none⟩ = some (.slice A n c) := by
    rw [(below_setCells (B := w.heap.size + 1) w7 (w.heap.size + 1) Y.toList 0 (Below.refl _ _) (Nat.le_refl _)).cell (p := ⟨w.heap.size, 0, none⟩) (by show w.heap.size < _; omega)]; exact d7
  refine hK.out _ _ d8 (fun _ => ?_)
  clear hK K d7 d8 HR7 HB7
  generalize w7.setCells (w.heap.size + 1) 0 Y.toList = w8 at *
  have HW8 := Lib.hid hw8
  have HB8 := Lib.hid hb8
  clear hw8 hb8
  refine wpAnyH_done (by kernel_rfl) ?_ _
  go_wp2_with fail
  refine bodyPost_ret (results_cell1 Tryd.results34 _ _ _ ⟨w.heap.size + 1, 0, none⟩ _ rfl (load_whole HW8.out 49 _ Tryd.underlying49 rfl (by rw [hsizeY]; exact info49))) rfl ⟨by rw [HY.out], HB8.out⟩
end Go.Proofs.YtceillnmcccckaaDoor
