/-
  What tree.Hash returns for a leaf: the sum of the text that the chapter gives; conditions: its bytes are read, the table holds its words. It only makes memory of its own.
  What tree.Hash returns for an inner node: the sum of the text that the chapter gives; conditions: the table holds its words, its sums have 32 bytes. It only makes memory of its own.
  What leaf returns: a new leaf; conditions: its bytes are read, the table holds its words. It only makes memory of its own.
-/
import Derived.Test.YtolkpjbbfopmnaaDoorNodeA
import Derived.Deep.RegionHeld3
namespace Go.Proofs.YtolkpjbbfopmnaaDoor
open Go.RowKit
open Tr

theorem u8_len (n : Nat) : IntKind.u8.wrap (n : Int) = ((UInt8.ofNat n).toNat : Int) := by
  simp [IntKind.wrap, IntKind.bits, IntKind.signed]
/-- The cells of a boxed node. -/
theorem abox {w : World} {g : Nat} {t : TypeId} {kv vv : Value} {h : Int} {z : Nat} {l r : List UInt8} (hw : Whole w g t (acells kv vv h z l r).toArray) :
    w.cell? ⟨g, 0, none⟩ = some kv ∧ w.cell? ⟨g, 1, none⟩ = some vv ∧ w.cell? ⟨g, 2, none⟩ = some (.int .i64 h) ∧ w.cell? ⟨g, 3, none⟩ = some (.int .u64 z) :=
  ⟨hw.at_ rfl, hw.at_ rfl, hw.at_ rfl, hw.at_ rfl⟩

set_option maxRecDepth 100000 in
set_option maxHeartbeats 1000000 in
theorem hash_leaf (A : Option Addr) (n c : Nat) (A' : Option Addr) (n' c' : Nat) (z : Nat) (l r k v : List UInt8) (w : World) (hk : Rd w w.heap.size A n k) (hv : Rd w w.heap.size A' n' v) (hnc : n ≤ c) (hnc' : n' ≤ c') (hn : n ≤ 100000) (hn' : n' ≤ 100000)
    (ht : Sh.Tab w 1) (hw : 1 < w.heap.size) :
    Calls Tryd.prog 26 #[.agg (acells (.slice A n c) (.slice A' n' c') 0 z l r).toArray] w fun e w' => e = .returned (.agg (Sh.bcells (Sh.Sha.sum (leafText k v)))) ∧ Below w.heap.size w w' := by
  have hz49 := zero49
  have HK := Lib.hid hk
  have HV := Lib.hid hv
  have HT := Lib.hid ht
  clear hk hv ht
  go_enter Tryd.func26, Tryd.ntmps26
  go_upto_region 1 with (fail)
  clear hz49
  have hb : Below w.heap.size w ((w.alloc (.cells (acells (.slice A n c) (.slice A' n' c') 0 z l r).toArray 47)).alloc (.cells (zb 32) 29)) := ((Below.refl _ _).alloc (Nat.le_refl _) _).alloc (by simp) _
  have hw1 := (Whole.made w 47 (acells (.slice A n c) (.slice A' n' c') 0 z l r).toArray).alloc (.cells (zb 32) 29)
  have hw2 := Whole.made (w.alloc (.cells (acells (.slice A n c) (.slice A' n' c') 0 z l r).toArray 47)) 29 (zb 32)
  rw [size_alloc] at hw2
  have hs : w.heap.size + 1 < ((w.alloc (.cells (acells (.slice A n c) (.slice A' n' c') 0 z l r).toArray 47)).alloc (.cells (zb 32) 29)).heap.size := by simp
  generalize (w.alloc (.cells (acells (.slice A n c) (.slice A' n' c') 0 z l r).toArray 47)).alloc (.cells (zb 32) 29) = w1 at *
  obtain ⟨c0, c1, c2, c3⟩ := abox hw1
  have hv1 := HV.out.below hb (Nat.le_refl _)
  have hba : Below w.heap.size w (w1.alloc (.cells #[.slice A' n' c'] 31)) := hb.alloc hb.size _
  have hsum := Sh.sum_any _ 1 1 [v] _ (Sh.parts_one w1 31 A' n' c' _ (reads_of_rd hv1 hb.size) hnc' (by omega)) (by omega) (Sh.tab_below HT.out hba hw) (by simp; omega)
  rw [show [v].flatten = v by simp] at hsum
  have HSUM := Lib.hid hsum
  have HB := Lib.hid hb
  have HW1 := Lib.hid hw1
  have HW2 := Lib.hid hw2
  clear hb hw1 hw2 hv1 hba hsum c3
  generalize (acells (.slice A n c) (.slice A' n' c') 0 z l r).toArray = X at *
  go_wp2_with fail
  refine HSUM.out.mono ?_
  rintro e w2 ⟨rfl, hb2⟩
  have hsz : (w1.alloc (.cells #[.slice A' n' c'] 31)).heap.size = w1.heap.size + 1 := size_alloc _ _
  have hbx : Below w1.heap.size w1 w2 := ((Below.refl _ _).alloc (Nat.le_refl _) _).trans (hb2.mono (by omega))
  have HBX := Lib.hid hbx
  clear hb2 HSUM hsz hbx
  obtain ⟨S, hS⟩ : ∃ S, Sh.Sha.sum v = S := ⟨_, rfl⟩
  have hS32 : S.length = 32 := by rw [← hS]; exact Sh.sum_length _
  rw [hS]
  have HS := Lib.hid (And.intro hS hS32)
  clear hS hS32
  simp only []
  have hz49 := zero49
  iterate 4 go_step
  clear hz49
  have hw3 := Whole.made w2 29 (zb 32)
  have hsizeS : (Sh.bcells S).size = 32 := (Sh.bcells_size S).trans HS.out.2
  refine wpList_store_mid rfl 29 (.tmp 3) (.tmp 10) rfl w2.heap.size 0 (Sh.bcells S) rfl rfl ?_ ?_ (Sh.bcells_one S) ?_
  · rw [hsizeS]; have := hw3.there_; rw [zb_size] at this; exact this
  · rw [hsizeS]; exact info49
  have hw4 := hw3.setAll (vs := Sh.bcells S) (by rw [zb_size, hsizeS])
  have hb4 : Below w1.heap.size w1 ((w2.alloc (.cells (zb 32) 29)).setCells w2.heap.size 0 (Sh.bcells S).toList) := below_setCells w1 w2.heap.size _ 0 (HBX.out.alloc HBX.out.size _) HBX.out.size
  have hs4 : w1.heap.size ≤ w2.heap.size := HBX.out.size
  have hlt4 : w2.heap.size < ((w2.alloc (.cells (zb 32) 29)).setCells w2.heap.size 0 (Sh.bcells S).toList).heap.size := by rw [size_setCells, size_alloc]; omega
  generalize (w2.alloc (.cells (zb 32) 29)).setCells w2.heap.size 0 (Sh.bcells S).toList = w4 at *
  have d0 : w4.cell? ⟨w.heap.size, 0, none⟩ = some (.slice A n c) := by rw [hb4.cell (p := ⟨w.heap.size, 0, none⟩) (by show w.heap.size < _; omega)]; exact c0
  have HB4 := Lib.hid (HB.out.trans (hb4.mono HB.out.size))
  have HW4 := Lib.hid hw4
  have HR4 := Lib.hid (HW2.out.below hb4 hs)
  generalize w2.heap.size = g3 at *
  clear hw3 hsizeS hw4 hb4 HBX HW2 HB HW1 c0 c1 c2
  go_upto_region 3 with (fail)
  have hS0 : w4.drew.cell? ⟨w.heap.size, 0, none⟩ = some (.slice A n c) := d0
  refine wp_region_held_drew (S := fun w' => w'.cell? ⟨w.heap.size, 0, none⟩ = some (.slice A n c)) (by kernel_rfl) hS0 (fun hHeld => ?_)
  refine wpAnyH_take (i := 0) (oi := { dst := some 11, op := Op.fieldAddr 47 (Operand.tmp 1) 0, type := 0, pos := "tree.go:27", after := #[], guard := none }) (v := ?_) rfl (by kernel_rfl) (by kernel_rfl) (by kernel_rfl) (fun _ _ _ h => h) (Or.inl ⟨by rfl, ?_⟩) (by assumption) ?_
  rotate_left
  · first | (intro w hSw; (try dsimp only at hSw); go_simp; done) | (intro w hSw; (try dsimp only at hSw); go_simp; with_reducible rfl)
  simp only [Act.put, List.setIfInBounds_toArray, List.set_cons_zero, List.set_cons_succ]
  refine wpAnyH_take (i := 1) (oi := { dst := some 12, op := Op.load 31 (Operand.tmp 11), type := 31, pos := "tree.go:27", after := #[{ on := 0, ground := Ground.data }], guard := none }) (v := ?_) rfl (by kernel_rfl) (by kernel_rfl) (by kernel_rfl) (fun _ _ _ h => h) (Or.inl ⟨by rfl, ?_⟩) (by assumption) ?_
  rotate_left
  · first | (intro w hSw; (try dsimp only at hSw); go_simp; done) | (intro w hSw; (try dsimp only at hSw); go_simp; with_reducible rfl)
  simp only [Act.put, List.setIfInBounds_toArray, List.set_cons_zero, List.set_cons_succ]
  refine wpAnyH_take (i := 2) (oi := { dst := some 13, op := Op.call { callee := Callee.builtin Builtin.len, args := #[Operand.tmp 12], argTypes := #[31] }, type := 3, pos := "tree.go:27", after := #[{ on := 1, ground := Ground.data }], guard := none }) (v := ?_) rfl (by kernel_rfl) (by kernel_rfl) (by kernel_rfl) (fun _ _ _ h => h) (Or.inl ⟨by rfl, ?_⟩) (by assumption) ?_
  rotate_left
  · first | (intro w hSw; (try dsimp only at hSw); go_simp; done) | (intro w hSw; (try dsimp only at hSw); go_simp; with_reducible rfl)
  simp only [Act.put, List.setIfInBounds_toArray, List.set_cons_zero, List.set_cons_succ]
  refine wpAnyH_take (i := 3) (oi := { dst := some 14, op := Op.convert 3 5 (Operand.tmp 13), type := 5, pos := "tree.go:27", after := #[{ on := 2, ground := Ground.data }], guard := none }) (v := ?_) rfl (by kernel_rfl) (by kernel_rfl) (by kernel_rfl) (fun _ _ _ h => h) (Or.inl ⟨by rfl, ?_⟩) (by assumption) ?_
  rotate_left
  · first | (intro w hSw; (try dsimp only at hSw); go_simp; done) | (intro w hSw; (try dsimp only at hSw); go_simp; with_reducible rfl)
  simp only [Act.put, List.setIfInBounds_toArray, List.set_cons_zero, List.set_cons_succ]
  refine wpAnyH_take (i := 5) (oi := { dst := some 16, op := Op.fieldAddr 47 (Operand.tmp 1) 0, type := 0, pos := "tree.go:27", after := #[], guard := none }) (v := ?_) rfl (by kernel_rfl) (by kernel_rfl) (by kernel_rfl) (fun _ _ _ h => h) (Or.inl ⟨by rfl, ?_⟩) (by assumption) ?_
  rotate_left
  · first | (intro w hSw; (try dsimp only at hSw); go_simp; done) | (intro w hSw; (try dsimp only at hSw); go_simp; with_reducible rfl)
  simp only [Act.put, List.setIfInBounds_toArray, List.set_cons_zero, List.set_cons_succ]
  refine wpAnyH_take (i := 6) (oi := { dst := some 17, op := Op.load 31 (Operand.tmp 16), type := 31, pos := "tree.go:27", after := #[{ on := 5, ground := Ground.data }], guard := none }) (v := ?_) rfl (by kernel_rfl) (by kernel_rfl) (by kernel_rfl) (fun _ _ _ h => h) (Or.inl ⟨by rfl, ?_⟩) (by assumption) ?_
  rotate_left
  · first | (intro w hSw; (try dsimp only at hSw); go_simp; done) | (intro w hSw; (try dsimp only at hSw); go_simp; with_reducible rfl)
  simp only [Act.put, List.setIfInBounds_toArray, List.set_cons_zero, List.set_cons_succ]
  refine wpAnyH_take (i := 7) (oi := { dst := some 18, op := Op.slice 29 (Operand.tmp 3) none none none, type := 31, pos := "tree.go:27", after := #[], guard := none }) (v := ?_) rfl (by kernel_rfl) (by kernel_rfl) (by kernel_rfl) (fun _ _ _ h => h) (Or.inl ⟨by rfl, ?_⟩) (by assumption) ?_
  rotate_left
  · first | (intro w hSw; (try dsimp only at hSw); go_simp; done) | (intro w hSw; (try dsimp only at hSw); go_simp; with_reducible rfl)
  simp only [Act.put, List.setIfInBounds_toArray, List.set_cons_zero, List.set_cons_succ]
  refine wpAnyH_ready (rs := [4]) (by kernel_rfl) (by simp) ?_
  refine AllReadyH.cons rfl (fun K hK => ?_) AllReadyH.nil
  go_simp
  have hb5 : Below w4.heap.size w4 (w4.alloc (.cells #[.int .u8 0, .int .u8 (IntKind.u8.wrap (n : Int))] 5)).drew := ((Below.refl _ _).alloc (Nat.le_refl _) _).drew
  have hr5 : Rd (w4.alloc (.cells #[.int .u8 0, .int .u8 (IntKind.u8.wrap (n : Int))] 5)).drew (w4.heap.size + 1) (some ⟨w4.heap.size, 0, none⟩) 2 [0, UInt8.ofNat n] :=
    rd_new w4 5 [0, UInt8.ofNat n] 2 rfl _ (by rw [u8_len]; rfl)
  have hsz5 : (w4.alloc (.cells #[.int .u8 0, .int .u8 (IntKind.u8.wrap (n : Int))] 5)).drew.heap.size = w4.heap.size + 1 := size_alloc _ _
  generalize (w4.alloc (.cells #[.int .u8 0, .int .u8 (IntKind.u8.wrap (n : Int))] 5)).drew = w5 at *
  have d5 : w5.cell? ⟨w.heap.size, 0, none⟩ = some (.slice A n c) := by rw [hb5.cell (p := ⟨w.heap.size, 0, none⟩) (by show w.heap.size < _; omega)]; exact d0
  have HW5 := Lib.hid (HW4.out.below hb5 hlt4)
  have HR5 := Lib.hid (HR4.out.below hb5 (by omega))
  have HB5 := Lib.hid (HB4.out.trans (hb5.mono HB4.out.size))
  have HRD5 := Lib.hid hr5
  have hgg : w4.heap.size < w5.heap.size := by omega
  refine hK.out _ _ d5 (fun _ => ?_)
  clear hK K hHeld hS0 d0 HW4 HR4 HB4 hb5 hr5 hsz5
  generalize w4.heap.size = g4 at *
  refine wpAnyH_ready (rs := [8]) (by kernel_rfl) (by simp) ?_
  refine AllReadyH.cons rfl (fun K hK => ?_) AllReadyH.nil
  go_simp
  have hb6 : Below w5.heap.size w5 (w5.alloc (.cells #[.slice (some ⟨g4, 0, none⟩) 2 2, .slice A n c, .slice (some ⟨g3, 0, none⟩) 32 32] 31)) := (Below.refl _ _).alloc (Nat.le_refl _) _
  have hp6 := Sh.parts_three w5 31 (some ⟨g4, 0, none⟩) A (some ⟨g3, 0, none⟩) 2 n 32 2 c 32 [0, UInt8.ofNat n] k S (reads_of_rd HRD5.out hgg) (reads_of_rd (HK.out.below HB5.out (Nat.le_refl _)) HB5.out.size)
    (reads_of_rd (B := w5.heap.size) (Rd.mk_ HS.out.2 g3 0 HW5.out.lt fun j u hu => HW5.out.at_ (by rw [Nat.zero_add, Sh.bcells, List.getElem?_toArray, List.getElem?_map, hu]; rfl)) (Nat.le_refl _)) (Nat.le_refl _) hnc (Nat.le_refl _) (by omega) (by omega) (by omega)
  have HB6 := Lib.hid (HB5.out.trans (hb6.mono HB5.out.size))
  have hsz6 : (w5.alloc (.cells #[.slice (some ⟨g4, 0, none⟩) 2 2, .slice A n c, .slice (some ⟨g3, 0, none⟩) 32 32] 31)).heap.size = w5.heap.size + 1 := size_alloc _ _
  have hsum := Sh.sum_any _ 3 3 _ _ hp6 (by omega) (Sh.tab_below HT.out HB6.out hw) (by omega)
  have htxt : [[0, UInt8.ofNat n], k, S].flatten = leafText k v := by
    rw [leafText, HS.out.1, HK.out.len]; simp
  rw [htxt] at hsum
  have HSUM := Lib.hid hsum
  have hg6 : w.heap.size + 1 < (w5.alloc (.cells #[.slice (some ⟨g4, 0, none⟩) 2 2, .slice A n c, .slice (some ⟨g3, 0, none⟩) 32 32] 31)).heap.size := by omega
  have HR6 := Lib.hid (HR5.out.below hb6 (by omega))
  have d6 : (w5.alloc (.cells #[.slice (some ⟨g4, 0, none⟩) 2 2, .slice A n c, .slice (some ⟨g3, 0, none⟩) 32 32] 31)).cell? ⟨w.heap.size, 0, none⟩ = some (.slice A n c) := by rw [hb6.cell (p := ⟨w.heap.size, 0, none⟩) (by show w.heap.size < _; omega)]; exact d5
  refine hK.out _ _ d6 (fun _ => ?_)
  clear hK K hp6 hb6 hsum htxt HRD5 d5 HW5 HR5 HB5 hsz6
  generalize w5.alloc (.cells #[.slice (some ⟨g4, 0, none⟩) 2 2, .slice A n c, .slice (some ⟨g3, 0, none⟩) 32 32] 31) = w6 at *
  refine wpAnyH_ready (rs := [9]) (by kernel_rfl) (by simp) ?_
  refine AllReadyH.cons rfl (fun K hK => ?_) AllReadyH.nil
  go_simp
  refine HSUM.out.mono ?_
  rintro e w7 ⟨rfl, hb7⟩
  have d7 : w7.cell? ⟨w.heap.size, 0, none⟩ = some (.slice A n c) := by rw [hb7.cell (p := ⟨w.heap.size, 0, none⟩) (by show w.heap.size < _; omega)]; exact d6
  have HR7 := Lib.hid (HR6.out.below hb7 (by omega))
  have HB7 := Lib.hid (HB6.out.trans (hb7.mono HB6.out.size))
  clear hb7 HSUM HR6 HB6 d6
  obtain ⟨Y, hY⟩ : ∃ Y, Sh.bcells (Sh.Sha.sum (leafText k v)) = Y := ⟨_, rfl⟩
  have hsizeY : Y.size = 32 := by rw [← hY, Sh.bcells_size, Sh.sum_length]
  have honeY : Y.all (·.oneCell') = true := by rw [← hY]; exact Sh.bcells_one _
  rw [hY]
  have HY := Lib.hid hY
  clear hY
  refine hK.out _ _ d7 (fun _ => ?_)
  clear hK K
  refine wpAnyH_ready (rs := [10]) (by kernel_rfl) (by simp) ?_
  refine AllReadyH.cons rfl (fun K hK => ?_) AllReadyH.nil
  refine Eq.mpr (if_pos (by rfl)) ?_
  refine wp_store_mid 29 (.tmp 2) (.tmp 20) rfl (w.heap.size + 1) 0 Y rfl rfl ?_ ?_ honeY ?_
  · rw [hsizeY]; have := HR7.out.there_; rw [zb_size] at this; exact this
  · rw [hsizeY]; exact info49
  have hw8 := HR7.out.setAll (vs := Y) (by rw [zb_size, hsizeY])
  have hb8 := below_setCells w (w.heap.size + 1) Y.toList 0 HB7.out (by omega)
  have d8 : (w7.setCells (w.heap.size + 1) 0 Y.toList).cell? ⟨w.heap.size, 0, none⟩ = some (.slice A n c) := by
    rw [(below_setCells (B := w.heap.size + 1) w7 (w.heap.size + 1) Y.toList 0 (Below.refl _ _) (Nat.le_refl _)).cell (p := ⟨w.heap.size, 0, none⟩) (by show w.heap.size < _; omega)]; exact d7
  refine hK.out _ _ d8 (fun _ => ?_)
  clear hK K d7 d8 HR7 HB7
  generalize w7.setCells (w.heap.size + 1) 0 Y.toList = w8 at *
  have HW8 := Lib.hid hw8
  have HB8 := Lib.hid hb8
  clear hw8 hb8
  refine wpAnyH_done (by kernel_rfl) ?_ _
  go_wp2_with fail
  refine bodyPost_ret (results_cell1 Tryd.results26 _ _ _ ⟨w.heap.size + 1, 0, none⟩ _ rfl (load_whole HW8.out 29 _ Tryd.underlying29 rfl (by rw [hsizeY]; exact info49))) rfl ⟨by rw [HY.out], HB8.out⟩
end Go.Proofs.YtolkpjbbfopmnaaDoor
namespace Go.Proofs.YtolkpjbbfopmnaaDoor
open Go.RowKit
open Tr

/-- Four slices handed over as parts. -/
theorem parts_four (w : World) (t : TypeId) (A1 A2 A3 A4 : Option Addr) (n1 n2 n3 n4 c1 c2 c3 c4 : Nat) (b1 b2 b3 b4 : List UInt8) (h1 : Sh.Reads w A1 n1 b1) (h2 : Sh.Reads w A2 n2 b2) (h3 : Sh.Reads w A3 n3 b3) (h4 : Sh.Reads w A4 n4 b4)
    (k1 : n1 ≤ c1) (k2 : n2 ≤ c2) (k3 : n3 ≤ c3) (k4 : n4 ≤ c4) (m1 : n1 ≤ 140737488355328) (m2 : n2 ≤ 140737488355328) (m3 : n3 ≤ 140737488355328) (m4 : n4 ≤ 140737488355328) :
    Sh.Parts (w.alloc (.cells #[.slice A1 n1 c1, .slice A2 n2 c2, .slice A3 n3 c3, .slice A4 n4 c4] t)) (some ⟨w.heap.size, 0, none⟩) 4 [b1, b2, b3, b4] := by
  have hb : Below w.heap.size w (w.alloc (.cells #[.slice A1 n1 c1, .slice A2 n2 c2, .slice A3 n3 c3, .slice A4 n4 c4] t)) := (Below.refl _ _).alloc (Nat.le_refl _) _
  refine ⟨rfl, fun _ => ⟨w.heap.size, 0, rfl, by simp, fun j l hl => ?_⟩⟩
  have hj : j < 4 := (List.getElem?_eq_some_iff.1 hl).1
  match j, hj with
  | 0, _ => simp at hl; subst hl; exact ⟨A1, n1, c1, (Whole.made w t _).at_ rfl, k1, m1, h1.below hb⟩
  | 1, _ => simp at hl; subst hl; exact ⟨A2, n2, c2, (Whole.made w t _).at_ rfl, k2, m2, h2.below hb⟩
  | 2, _ => simp at hl; subst hl; exact ⟨A3, n3, c3, (Whole.made w t _).at_ rfl, k3, m3, h3.below hb⟩
  | 3, _ => simp at hl; subst hl; exact ⟨A4, n4, c4, (Whole.made w t _).at_ rfl, k4, m4, h4.below hb⟩

/-- The two sums in a boxed node, read as bytes. -/
theorem abox_l {w : World} {g : Nat} {t : TypeId} {kv vv : Value} {h : Int} {z : Nat} {l r : List UInt8} (hw : Whole w g t (acells kv vv h z l r).toArray) (hl : l.length = 32) : Rd w w.heap.size (some ⟨g, 4, none⟩) 32 l :=
  Rd.mk_ hl g 4 hw.lt fun j v hv => hw.at_ (by
    have hj := (List.getElem?_eq_some_iff.1 hv).1
    rw [List.getElem?_toArray, acells, Nat.add_comm 4 j]
    show (List.map V8 l ++ List.map V8 r)[j]? = _
    rw [List.getElem?_append_left (by rw [List.length_map]; exact hj), List.getElem?_map, hv]; rfl)
theorem abox_r {w : World} {g : Nat} {t : TypeId} {kv vv : Value} {h : Int} {z : Nat} {l r : List UInt8} (hw : Whole w g t (acells kv vv h z l r).toArray) (hl : l.length = 32) (hr : r.length = 32) : Rd w w.heap.size (some ⟨g, 36, none⟩) 32 r :=
  Rd.mk_ hr g 36 hw.lt fun j v hv => hw.at_ (by
    rw [List.getElem?_toArray, acells, show 36 + j = (32 + j) + 4 by omega]
    show (List.map V8 l ++ List.map V8 r)[32 + j]? = _
    rw [List.getElem?_append_right (by rw [List.length_map]; omega), List.length_map, hl, Nat.add_sub_cancel_left, List.getElem?_map, hv]; rfl)

set_option maxRecDepth 100000 in
set_option maxHeartbeats 2000000 in
theorem hash_inner (kv vv : Value) (h : Int) (hb8 : UInt8) (z : UInt64) (l r : List UInt8) (w : World) (hh : h ≠ 0) (hbyte : IntKind.u8.wrap h = (hb8.toNat : Int)) (hl : l.length = 32) (hr : r.length = 32)
    (ht : Sh.Tab w 1) (hw : 1 < w.heap.size) :
    Calls Tryd.prog 26 #[.agg (acells kv vv h z.toNat l r).toArray] w fun e w' => e = .returned (.agg (Sh.bcells (Sh.Sha.sum (innerText hb8 z l r)))) ∧ Below w.heap.size w w' := by
  have hz49 := zero49
  have HT := Lib.hid ht
  have HL := Lib.hid (And.intro hl hr)
  have HBY := Lib.hid hbyte
  have hh0 : (h == 0) = false := by rw [beq_eq_false_iff_ne]; exact hh
  clear ht hl hr hbyte hh
  go_enter Tryd.func26, Tryd.ntmps26
  go_upto_region 1 with (fail)
  clear hz49
  have hb : Below w.heap.size w ((w.alloc (.cells (acells kv vv h z.toNat l r).toArray 47)).alloc (.cells (zb 32) 29)) := ((Below.refl _ _).alloc (Nat.le_refl _) _).alloc (by simp) _
  have hw1 := (Whole.made w 47 (acells kv vv h z.toNat l r).toArray).alloc (.cells (zb 32) 29)
  have hw2 := Whole.made (w.alloc (.cells (acells kv vv h z.toNat l r).toArray 47)) 29 (zb 32)
  rw [size_alloc] at hw2
  have hs : w.heap.size + 1 < ((w.alloc (.cells (acells kv vv h z.toNat l r).toArray 47)).alloc (.cells (zb 32) 29)).heap.size := by simp
  generalize (w.alloc (.cells (acells kv vv h z.toNat l r).toArray 47)).alloc (.cells (zb 32) 29) = w1 at *
  obtain ⟨_, _, c2, c3⟩ := abox hw1
  have HB := Lib.hid hb
  have HW1 := Lib.hid hw1
  have HW2 := Lib.hid hw2
  clear hb hw1 hw2
  obtain ⟨X, hX⟩ : ∃ X, (acells kv vv h z.toNat l r).toArray = X := ⟨_, rfl⟩
  rw [hX] at HW1 ⊢
  have HX := Lib.hid hX
  clear hX
  go_upto_region 4 with (fail)
  have hS0 : w1.drew.cell? ⟨w.heap.size, 2, none⟩ = some (.int .i64 h) ∧ w1.drew.cell? ⟨w.heap.size, 3, none⟩ = some (.int .u64 z.toNat) := ⟨c2, c3⟩
  refine wp_region_held_drew (S := fun w' => w'.cell? ⟨w.heap.size, 2, none⟩ = some (.int .i64 h) ∧ w'.cell? ⟨w.heap.size, 3, none⟩ = some (.int .u64 z.toNat)) (by kernel_rfl) hS0 (fun hHeld => ?_)
  refine wpAnyH_take (i := 0) (oi := { dst := some 21, op := Op.fieldAddr 47 (Operand.tmp 1) 2, type := 0, pos := "tree.go:29", after := #[], guard := none }) (v := ?_) rfl (by kernel_rfl) (by kernel_rfl) (by kernel_rfl) (fun _ _ _ h => h) (Or.inl ⟨by rfl, ?_⟩) (by assumption) ?_
  rotate_left
  · first | (intro w hSw; (try dsimp only at hSw); go_simp; done) | (intro w hSw; (try dsimp only at hSw); go_simp; with_reducible rfl)
  simp only [Act.put, List.setIfInBounds_toArray, List.set_cons_zero, List.set_cons_succ]
  refine wpAnyH_take (i := 1) (oi := { dst := some 22, op := Op.load 3 (Operand.tmp 21), type := 3, pos := "tree.go:29", after := #[{ on := 0, ground := Ground.data }], guard := none }) (v := ?_) rfl (by kernel_rfl) (by kernel_rfl) (by kernel_rfl) (fun _ _ _ h => h) (Or.inl ⟨by rfl, ?_⟩) (by assumption) ?_
  rotate_left
  · first | (intro w hSw; (try dsimp only at hSw); go_simp; done) | (intro w hSw; (try dsimp only at hSw); go_simp; with_reducible rfl)
  simp only [Act.put, List.setIfInBounds_toArray, List.set_cons_zero, List.set_cons_succ]
  refine wpAnyH_take (i := 2) (oi := { dst := some 23, op := Op.convert 3 5 (Operand.tmp 22), type := 5, pos := "tree.go:29", after := #[{ on := 1, ground := Ground.data }], guard := none }) (v := ?_) rfl (by kernel_rfl) (by kernel_rfl) (by kernel_rfl) (fun _ _ _ h => h) (Or.inl ⟨by rfl, ?_⟩) (by assumption) ?_
  rotate_left
  · first | (intro w hSw; (try dsimp only at hSw); go_simp; done) | (intro w hSw; (try dsimp only at hSw); go_simp; with_reducible rfl)
  simp only [Act.put, List.setIfInBounds_toArray, List.set_cons_zero, List.set_cons_succ]
  refine wpAnyH_take (i := 4) (oi := { dst := some 25, op := Op.fieldAddr 47 (Operand.tmp 1) 3, type := 0, pos := "tree.go:29", after := #[], guard := none }) (v := ?_) rfl (by kernel_rfl) (by kernel_rfl) (by kernel_rfl) (fun _ _ _ h => h) (Or.inl ⟨by rfl, ?_⟩) (by assumption) ?_
  rotate_left
  · first | (intro w hSw; (try dsimp only at hSw); go_simp; done) | (intro w hSw; (try dsimp only at hSw); go_simp; with_reducible rfl)
  simp only [Act.put, List.setIfInBounds_toArray, List.set_cons_zero, List.set_cons_succ]
  refine wpAnyH_take (i := 5) (oi := { dst := some 26, op := Op.load 45 (Operand.tmp 25), type := 45, pos := "tree.go:29", after := #[{ on := 4, ground := Ground.data }], guard := none }) (v := ?_) rfl (by kernel_rfl) (by kernel_rfl) (by kernel_rfl) (fun _ _ _ h => h) (Or.inl ⟨by rfl, ?_⟩) (by assumption) ?_
  rotate_left
  · first | (intro w hSw; (try dsimp only at hSw); go_simp; done) | (intro w hSw; (try dsimp only at hSw); go_simp; with_reducible rfl)
  simp only [Act.put, List.setIfInBounds_toArray, List.set_cons_zero, List.set_cons_succ]
  refine wpAnyH_take (i := 7) (oi := { dst := some 28, op := Op.fieldAddr 47 (Operand.tmp 1) 4, type := 0, pos := "tree.go:29", after := #[], guard := none }) (v := ?_) rfl (by kernel_rfl) (by kernel_rfl) (by kernel_rfl) (fun _ _ _ h => h) (Or.inl ⟨by rfl, ?_⟩) (by assumption) ?_
  rotate_left
  · first | (intro w hSw; (try dsimp only at hSw); go_simp; done) | (intro w hSw; (try dsimp only at hSw); go_simp; with_reducible rfl)
  simp only [Act.put, List.setIfInBounds_toArray, List.set_cons_zero, List.set_cons_succ]
  refine wpAnyH_take (i := 8) (oi := { dst := some 29, op := Op.slice 29 (Operand.tmp 28) none none none, type := 31, pos := "tree.go:29", after := #[{ on := 7, ground := Ground.data }], guard := none }) (v := ?_) rfl (by kernel_rfl) (by kernel_rfl) (by kernel_rfl) (fun _ _ _ h => h) (Or.inl ⟨by rfl, ?_⟩) (by assumption) ?_
  rotate_left
  · first | (intro w hSw; (try dsimp only at hSw); go_simp; done) | (intro w hSw; (try dsimp only at hSw); go_simp; with_reducible rfl)
  simp only [Act.put, List.setIfInBounds_toArray, List.set_cons_zero, List.set_cons_succ]
  refine wpAnyH_take (i := 9) (oi := { dst := some 30, op := Op.fieldAddr 47 (Operand.tmp 1) 5, type := 0, pos := "tree.go:29", after := #[], guard := none }) (v := ?_) rfl (by kernel_rfl) (by kernel_rfl) (by kernel_rfl) (fun _ _ _ h => h) (Or.inl ⟨by rfl, ?_⟩) (by assumption) ?_
  rotate_left
  · first | (intro w hSw; (try dsimp only at hSw); go_simp; done) | (intro w hSw; (try dsimp only at hSw); go_simp; with_reducible rfl)
  simp only [Act.put, List.setIfInBounds_toArray, List.set_cons_zero, List.set_cons_succ]
  refine wpAnyH_take (i := 10) (oi := { dst := some 31, op := Op.slice 29 (Operand.tmp 30) none none none, type := 31, pos := "tree.go:29", after := #[{ on := 9, ground := Ground.data }], guard := none }) (v := ?_) rfl (by kernel_rfl) (by kernel_rfl) (by kernel_rfl) (fun _ _ _ h => h) (Or.inl ⟨by rfl, ?_⟩) (by assumption) ?_
  rotate_left
  · first | (intro w hSw; (try dsimp only at hSw); go_simp; done) | (intro w hSw; (try dsimp only at hSw); go_simp; with_reducible rfl)
  simp only [Act.put, List.setIfInBounds_toArray, List.set_cons_zero, List.set_cons_succ]
  have d1 : w1.cell? ⟨w.heap.size, 2, none⟩ = some (.int .i64 h) ∧ w1.cell? ⟨w.heap.size, 3, none⟩ = some (.int .u64 z.toNat) := ⟨c2, c3⟩
  clear c2 c3 hS0 hHeld hh0
  refine wpAnyH_ready (rs := [3, 6]) (by kernel_rfl) (by simp) ?_
  refine AllReadyH.cons rfl (fun K hK => ?_) (AllReadyH.cons rfl (fun K hK => ?_) AllReadyH.nil)
  · go_simp
    have hb4 : Below w1.heap.size w1 (w1.alloc (.cells #[.int .u8 1, .int .u8 (IntKind.u8.wrap h)] 5)).drew := ((Below.refl _ _).alloc (Nat.le_refl _) _).drew
    have hr4 : Rd (w1.alloc (.cells #[.int .u8 1, .int .u8 (IntKind.u8.wrap h)] 5)).drew (w1.heap.size + 1) (some ⟨w1.heap.size, 0, none⟩) 2 [1, hb8] := rd_new w1 5 [1, hb8] 2 rfl _ (by rw [HBY.out]; rfl)
    have hg4 : w1.heap.size + 1 ≤ (w1.alloc (.cells #[.int .u8 1, .int .u8 (IntKind.u8.wrap h)] 5)).drew.heap.size := Nat.le_of_eq (size_alloc _ _).symm
    generalize (w1.alloc (.cells #[.int .u8 1, .int .u8 (IntKind.u8.wrap h)] 5)).drew = w4 at *
    have d4 : w4.cell? ⟨w.heap.size, 2, none⟩ = some (.int .i64 h) ∧ w4.cell? ⟨w.heap.size, 3, none⟩ = some (.int .u64 z.toNat) := by
      rw [hb4.cell (p := ⟨w.heap.size, 2, none⟩) (by show w.heap.size < _; omega), hb4.cell (p := ⟨w.heap.size, 3, none⟩) (by show w.heap.size < _; omega)]; exact d1
    refine hK.out _ _ d4 (fun _ => ?_)
    have HX4 := Lib.hid (HW1.out.below hb4 (by omega))
    have HR4 := Lib.hid (HW2.out.below hb4 hs)
    have HB4 := Lib.hid (HB.out.trans (hb4.mono HB.out.size))
    have HRD4 := Lib.hid hr4
    clear hK K d1 HW1 HW2 HB hb4 hr4
    generalize w1.heap.size = g4 at *
    refine wpAnyH_ready (rs := [6]) (by kernel_rfl) (by simp) ?_
    refine AllReadyH.cons rfl (fun K hK => ?_) AllReadyH.nil
    go_simp
    refine (sizeBytes_any z w4).mono ?_
    rintro e w5 ⟨Ae, ne, ce, rfl, hre, hnce, hb5⟩
    have hs5 : w.heap.size + 1 < w5.heap.size := by have := hb5.size; omega
    have d5 : w5.cell? ⟨w.heap.size, 2, none⟩ = some (.int .i64 h) ∧ w5.cell? ⟨w.heap.size, 3, none⟩ = some (.int .u64 z.toNat) := by
      rw [hb5.cell (p := ⟨w.heap.size, 2, none⟩) (by show w.heap.size < _; omega), hb5.cell (p := ⟨w.heap.size, 3, none⟩) (by show w.heap.size < _; omega)]; exact d4
    refine hK.out _ _ d5 (fun _ => ?_)
    have HX5 := Lib.hid (HX4.out.below hb5 (by omega))
    have HR5 := Lib.hid (HR4.out.below hb5 (by omega))
    have HB5 := Lib.hid (HB4.out.trans (hb5.mono HB4.out.size))
    have HRD5 := Lib.hid ((HRD4.out.below hb5 hg4).more (B' := w5.heap.size) (by have := hb5.size; omega))
    have HRE := Lib.hid hre
    clear hK K d4 HX4 HR4 HB4 HRD4 hre hb5 hg4
    refine wpAnyH_ready (rs := [11]) (by kernel_rfl) (by simp) ?_
    refine AllReadyH.cons rfl (fun K hK => ?_) AllReadyH.nil
    go_simp
    have hb6 : Below w5.heap.size w5 (w5.alloc (.cells #[.slice (some ⟨g4, 0, none⟩) 2 2, .slice Ae ne ce, .slice (some ⟨w.heap.size, 4, none⟩) 32 32, .slice (some ⟨w.heap.size, 36, none⟩) 32 32] 31)) := (Below.refl _ _).alloc (Nat.le_refl _) _
    have hX5 := HX5.out
    rw [← HX.out] at hX5
    have hne8 : ne = 8 := by rw [← HRE.out.len]; exact Sh.Sha.be8_length z
    have hp6 := parts_four w5 31 (some ⟨g4, 0, none⟩) Ae (some ⟨w.heap.size, 4, none⟩) (some ⟨w.heap.size, 36, none⟩) 2 ne 32 32 2 ce 32 32 [1, hb8] (Sh.Sha.be8 z) l r (reads_of_rd HRD5.out (Nat.le_refl _)) (reads_of_rd HRE.out (Nat.le_refl _))
      (reads_of_rd (abox_l hX5 HL.out.1) (Nat.le_refl _)) (reads_of_rd (abox_r hX5 HL.out.1 HL.out.2) (Nat.le_refl _)) (Nat.le_refl _) hnce (Nat.le_refl _) (Nat.le_refl _) (by omega) (by omega) (by omega) (by omega)
    have HB6 := Lib.hid (HB5.out.trans (hb6.mono HB5.out.size))
    have hsz6 : (w5.alloc (.cells #[.slice (some ⟨g4, 0, none⟩) 2 2, .slice Ae ne ce, .slice (some ⟨w.heap.size, 4, none⟩) 32 32, .slice (some ⟨w.heap.size, 36, none⟩) 32 32] 31)).heap.size = w5.heap.size + 1 := size_alloc _ _
    have hsum := Sh.sum_any _ 4 4 _ _ hp6 (by omega) (Sh.tab_below HT.out HB6.out hw) (by omega)
    have htxt : [[1, hb8], Sh.Sha.be8 z, l, r].flatten = innerText hb8 z l r := by
      rw [innerText]; simp
    rw [htxt] at hsum
    have HSUM := Lib.hid hsum
    have hg6 : w.heap.size + 1 < (w5.alloc (.cells #[.slice (some ⟨g4, 0, none⟩) 2 2, .slice Ae ne ce, .slice (some ⟨w.heap.size, 4, none⟩) 32 32, .slice (some ⟨w.heap.size, 36, none⟩) 32 32] 31)).heap.size := by omega
    have HR6 := Lib.hid (HR5.out.below hb6 (by omega))
    generalize hw6 : w5.alloc (.cells #[.slice (some ⟨g4, 0, none⟩) 2 2, .slice Ae ne ce, .slice (some ⟨w.heap.size, 4, none⟩) 32 32, .slice (some ⟨w.heap.size, 36, none⟩) 32 32] 31) = w6 at *
    have d6 : w6.cell? ⟨w.heap.size, 2, none⟩ = some (.int .i64 h) ∧ w6.cell? ⟨w.heap.size, 3, none⟩ = some (.int .u64 z.toNat) := by
      rw [hb6.cell (p := ⟨w.heap.size, 2, none⟩) (by show w.heap.size < _; omega), hb6.cell (p := ⟨w.heap.size, 3, none⟩) (by show w.heap.size < _; omega)]; exact d5
    refine hK.out _ _ d6 (fun _ => ?_)
    clear hK K hp6 hb6 hsum htxt HRD5 d5 HX5 HR5 HB5 hsz6 hX5 hw6 HRE hne8
    refine wpAnyH_ready (rs := [12]) (by kernel_rfl) (by simp) ?_
    refine AllReadyH.cons rfl (fun K hK => ?_) AllReadyH.nil
    go_simp
    refine HSUM.out.mono ?_
    rintro e w7 ⟨rfl, hb7⟩
    have d7 : w7.cell? ⟨w.heap.size, 2, none⟩ = some (.int .i64 h) ∧ w7.cell? ⟨w.heap.size, 3, none⟩ = some (.int .u64 z.toNat) := by
      rw [hb7.cell (p := ⟨w.heap.size, 2, none⟩) (by show w.heap.size < _; omega), hb7.cell (p := ⟨w.heap.size, 3, none⟩) (by show w.heap.size < _; omega)]; exact d6
    have HR7 := Lib.hid (HR6.out.below hb7 (by omega))
    have HB7 := Lib.hid (HB6.out.trans (hb7.mono HB6.out.size))
    clear hb7 HSUM HR6 HB6 d6
    obtain ⟨Y, hY⟩ : ∃ Y, Sh.bcells (Sh.Sha.sum (innerText hb8 z l r)) = Y := ⟨_, rfl⟩
    have hsizeY : Y.size = 32 := by rw [← hY, Sh.bcells_size, Sh.sum_length]
    have honeY : Y.all (·.oneCell') = true := by rw [← hY]; exact Sh.bcells_one _
    rw [hY]
    have HY := Lib.hid hY
    clear hY
    refine hK.out _ _ d7 (fun _ => ?_)
    clear hK K
    refine wpAnyH_ready (rs := [13]) (by kernel_rfl) (by simp) ?_
    refine AllReadyH.cons rfl (fun K hK => ?_) AllReadyH.nil
    refine Eq.mpr (if_pos (by rfl)) ?_
    refine wp_store_mid 29 (.tmp 2) (.tmp 33) rfl (w.heap.size + 1) 0 Y rfl rfl ?_ ?_ honeY ?_
    · rw [hsizeY]; have := HR7.out.there_; rw [zb_size] at this; exact this
    · rw [hsizeY]; exact info49
    have hw8 := HR7.out.setAll (vs := Y) (by rw [zb_size, hsizeY])
    have hb8' := below_setCells w (w.heap.size + 1) Y.toList 0 HB7.out (by omega)
    have hbs := below_setCells (B := w.heap.size + 1) w7 (w.heap.size + 1) Y.toList 0 (Below.refl _ _) (Nat.le_refl _)
    generalize w7.setCells (w.heap.size + 1) 0 Y.toList = w8 at *
    have d8 : w8.cell? ⟨w.heap.size, 2, none⟩ = some (.int .i64 h) ∧ w8.cell? ⟨w.heap.size, 3, none⟩ = some (.int .u64 z.toNat) := by
      rw [hbs.cell (p := ⟨w.heap.size, 2, none⟩) (by show w.heap.size < _; omega), hbs.cell (p := ⟨w.heap.size, 3, none⟩) (by show w.heap.size < _; omega)]; exact d7
    refine hK.out _ _ d8 (fun _ => ?_)
    clear hK K d7 d8 HR7 HB7 hbs
    have HW8 := Lib.hid hw8
    have HB8 := Lib.hid hb8'
    clear hw8 hb8'
    refine wpAnyH_done (by kernel_rfl) ?_ _
    go_wp2_with fail
    refine bodyPost_ret (results_cell1 Tryd.results26 _ _ _ ⟨w.heap.size + 1, 0, none⟩ _ rfl (load_whole HW8.out 29 _ Tryd.underlying29 rfl (by rw [hsizeY]; exact info49))) rfl ⟨by rw [HY.out], HB8.out⟩
  · go_simp
    refine (sizeBytes_any z w1.drew).mono ?_
    rintro e w4 ⟨Ae, ne, ce, rfl, hre, hnce, hb4⟩
    replace hb4 : Below w1.heap.size w1 w4 := (Below.refl _ _).drew.trans hb4
    have hg4 : w1.heap.size ≤ w4.heap.size := hb4.size
    have d4 : w4.cell? ⟨w.heap.size, 2, none⟩ = some (.int .i64 h) ∧ w4.cell? ⟨w.heap.size, 3, none⟩ = some (.int .u64 z.toNat) := by
      rw [hb4.cell (p := ⟨w.heap.size, 2, none⟩) (by show w.heap.size < _; omega), hb4.cell (p := ⟨w.heap.size, 3, none⟩) (by show w.heap.size < _; omega)]; exact d1
    refine hK.out _ _ d4 (fun _ => ?_)
    have HX4 := Lib.hid (HW1.out.below hb4 (by omega))
    have HR4 := Lib.hid (HW2.out.below hb4 hs)
    have HB4 := Lib.hid (HB.out.trans (hb4.mono HB.out.size))
    have HRE4 := Lib.hid hre
    clear hK K d1 HW1 HW2 HB hb4 hre
    refine wpAnyH_ready (rs := [3]) (by kernel_rfl) (by simp) ?_
    refine AllReadyH.cons rfl (fun K hK => ?_) AllReadyH.nil
    go_simp
    have hb5 : Below w4.heap.size w4 (w4.alloc (.cells #[.int .u8 1, .int .u8 (IntKind.u8.wrap h)] 5)) := (Below.refl _ _).alloc (Nat.le_refl _) _
    have hr5 : Rd (w4.alloc (.cells #[.int .u8 1, .int .u8 (IntKind.u8.wrap h)] 5)) (w4.heap.size + 1) (some ⟨w4.heap.size, 0, none⟩) 2 [1, hb8] := rd_new w4 5 [1, hb8] 2 rfl _ (by rw [HBY.out]; rfl)
    have hg5 : w4.heap.size + 1 ≤ (w4.alloc (.cells #[.int .u8 1, .int .u8 (IntKind.u8.wrap h)] 5)).heap.size := Nat.le_of_eq (size_alloc _ _).symm
    generalize w4.alloc (.cells #[.int .u8 1, .int .u8 (IntKind.u8.wrap h)] 5) = w5 at *
    have hs5 : w.heap.size + 1 < w5.heap.size := by have := hb5.size; omega
    have d5 : w5.cell? ⟨w.heap.size, 2, none⟩ = some (.int .i64 h) ∧ w5.cell? ⟨w.heap.size, 3, none⟩ = some (.int .u64 z.toNat) := by
      rw [hb5.cell (p := ⟨w.heap.size, 2, none⟩) (by show w.heap.size < _; omega), hb5.cell (p := ⟨w.heap.size, 3, none⟩) (by show w.heap.size < _; omega)]; exact d4
    refine hK.out _ _ d5 (fun _ => ?_)
    have HX5 := Lib.hid (HX4.out.below hb5 (by omega))
    have HR5 := Lib.hid (HR4.out.below hb5 (by omega))
    have HB5 := Lib.hid (HB4.out.trans (hb5.mono HB4.out.size))
    have HRD5 := Lib.hid (hr5.more hg5)
    have HRE := Lib.hid ((HRE4.out.below hb5 (Nat.le_refl _)).more hb5.size)
    clear hK K d4 HX4 HR4 HB4 HRE4 hr5 hb5 hg5
    generalize w4.heap.size = g4 at *
    refine wpAnyH_ready (rs := [11]) (by kernel_rfl) (by simp) ?_
    refine AllReadyH.cons rfl (fun K hK => ?_) AllReadyH.nil
    go_simp
    have hb6 : Below w5.heap.size w5 (w5.alloc (.cells #[.slice (some ⟨g4, 0, none⟩) 2 2, .slice Ae ne ce, .slice (some ⟨w.heap.size, 4, none⟩) 32 32, .slice (some ⟨w.heap.size, 36, none⟩) 32 32] 31)) := (Below.refl _ _).alloc (Nat.le_refl _) _
    have hX5 := HX5.out
    rw [← HX.out] at hX5
    have hne8 : ne = 8 := by rw [← HRE.out.len]; exact Sh.Sha.be8_length z
    have hp6 := parts_four w5 31 (some ⟨g4, 0, none⟩) Ae (some ⟨w.heap.size, 4, none⟩) (some ⟨w.heap.size, 36, none⟩) 2 ne 32 32 2 ce 32 32 [1, hb8] (Sh.Sha.be8 z) l r (reads_of_rd HRD5.out (Nat.le_refl _)) (reads_of_rd HRE.out (Nat.le_refl _))
      (reads_of_rd (abox_l hX5 HL.out.1) (Nat.le_refl _)) (reads_of_rd (abox_r hX5 HL.out.1 HL.out.2) (Nat.le_refl _)) (Nat.le_refl _) hnce (Nat.le_refl _) (Nat.le_refl _) (by omega) (by omega) (by omega) (by omega)
    have HB6 := Lib.hid (HB5.out.trans (hb6.mono HB5.out.size))
    have hsz6 : (w5.alloc (.cells #[.slice (some ⟨g4, 0, none⟩) 2 2, .slice Ae ne ce, .slice (some ⟨w.heap.size, 4, none⟩) 32 32, .slice (some ⟨w.heap.size, 36, none⟩) 32 32] 31)).heap.size = w5.heap.size + 1 := size_alloc _ _
    have hsum := Sh.sum_any _ 4 4 _ _ hp6 (by omega) (Sh.tab_below HT.out HB6.out hw) (by omega)
    have htxt : [[1, hb8], Sh.Sha.be8 z, l, r].flatten = innerText hb8 z l r := by
      rw [innerText]; simp
    rw [htxt] at hsum
    have HSUM := Lib.hid hsum
    have hg6 : w.heap.size + 1 < (w5.alloc (.cells #[.slice (some ⟨g4, 0, none⟩) 2 2, .slice Ae ne ce, .slice (some ⟨w.heap.size, 4, none⟩) 32 32, .slice (some ⟨w.heap.size, 36, none⟩) 32 32] 31)).heap.size := by omega
    have HR6 := Lib.hid (HR5.out.below hb6 (by omega))
    generalize hw6 : w5.alloc (.cells #[.slice (some ⟨g4, 0, none⟩) 2 2, .slice Ae ne ce, .slice (some ⟨w.heap.size, 4, none⟩) 32 32, .slice (some ⟨w.heap.size, 36, none⟩) 32 32] 31) = w6 at *
    have d6 : w6.cell? ⟨w.heap.size, 2, none⟩ = some (.int .i64 h) ∧ w6.cell? ⟨w.heap.size, 3, none⟩ = some (.int .u64 z.toNat) := by
      rw [hb6.cell (p := ⟨w.heap.size, 2, none⟩) (by show w.heap.size < _; omega), hb6.cell (p := ⟨w.heap.size, 3, none⟩) (by show w.heap.size < _; omega)]; exact d5
    refine hK.out _ _ d6 (fun _ => ?_)
    clear hK K hp6 hb6 hsum htxt HRD5 d5 HX5 HR5 HB5 hsz6 hX5 hw6 HRE hne8
    refine wpAnyH_ready (rs := [12]) (by kernel_rfl) (by simp) ?_
    refine AllReadyH.cons rfl (fun K hK => ?_) AllReadyH.nil
    go_simp
    refine HSUM.out.mono ?_
    rintro e w7 ⟨rfl, hb7⟩
    have d7 : w7.cell? ⟨w.heap.size, 2, none⟩ = some (.int .i64 h) ∧ w7.cell? ⟨w.heap.size, 3, none⟩ = some (.int .u64 z.toNat) := by
      rw [hb7.cell (p := ⟨w.heap.size, 2, none⟩) (by show w.heap.size < _; omega), hb7.cell (p := ⟨w.heap.size, 3, none⟩) (by show w.heap.size < _; omega)]; exact d6
    have HR7 := Lib.hid (HR6.out.below hb7 (by omega))
    have HB7 := Lib.hid (HB6.out.trans (hb7.mono HB6.out.size))
    clear hb7 HSUM HR6 HB6 d6
    obtain ⟨Y, hY⟩ : ∃ Y, Sh.bcells (Sh.Sha.sum (innerText hb8 z l r)) = Y := ⟨_, rfl⟩
    have hsizeY : Y.size = 32 := by rw [← hY, Sh.bcells_size, Sh.sum_length]
    have honeY : Y.all (·.oneCell') = true := by rw [← hY]; exact Sh.bcells_one _
    rw [hY]
    have HY := Lib.hid hY
    clear hY
    refine hK.out _ _ d7 (fun _ => ?_)
    clear hK K
    refine wpAnyH_ready (rs := [13]) (by kernel_rfl) (by simp) ?_
    refine AllReadyH.cons rfl (fun K hK => ?_) AllReadyH.nil
    refine Eq.mpr (if_pos (by rfl)) ?_
    refine wp_store_mid 29 (.tmp 2) (.tmp 33) rfl (w.heap.size + 1) 0 Y rfl rfl ?_ ?_ honeY ?_
    · rw [hsizeY]; have := HR7.out.there_; rw [zb_size] at this; exact this
    · rw [hsizeY]; exact info49
    have hw8 := HR7.out.setAll (vs := Y) (by rw [zb_size, hsizeY])
    have hb8' := below_setCells w (w.heap.size + 1) Y.toList 0 HB7.out (by omega)
    have hbs := below_setCells (B := w.heap.size + 1) w7 (w.heap.size + 1) Y.toList 0 (Below.refl _ _) (Nat.le_refl _)
    generalize w7.setCells (w.heap.size + 1) 0 Y.toList = w8 at *
    have d8 : w8.cell? ⟨w.heap.size, 2, none⟩ = some (.int .i64 h) ∧ w8.cell? ⟨w.heap.size, 3, none⟩ = some (.int .u64 z.toNat) := by
      rw [hbs.cell (p := ⟨w.heap.size, 2, none⟩) (by show w.heap.size < _; omega), hbs.cell (p := ⟨w.heap.size, 3, none⟩) (by show w.heap.size < _; omega)]; exact d7
    refine hK.out _ _ d8 (fun _ => ?_)
    clear hK K d7 d8 HR7 HB7 hbs
    have HW8 := Lib.hid hw8
    have HB8 := Lib.hid hb8'
    clear hw8 hb8'
    refine wpAnyH_done (by kernel_rfl) ?_ _
    go_wp2_with fail
    refine bodyPost_ret (results_cell1 Tryd.results26 _ _ _ ⟨w.heap.size + 1, 0, none⟩ _ rfl (load_whole HW8.out 29 _ Tryd.underlying29 rfl (by rw [hsizeY]; exact info49))) rfl ⟨by rw [HY.out], HB8.out⟩
end Go.Proofs.YtolkpjbbfopmnaaDoor
namespace Go.Proofs.YtolkpjbbfopmnaaDoor
open Go.RowKit
open Tr
variable {G : Nat → Prop}

/-- A node that is answered; nothing that was there has changed. -/
def NodePost (G : Nat → Prop) (t : T) (w : World) (e : Ending) (w' : World) : Prop := ∃ b, e = .returned (ptr (some b)) ∧ NIn G w' w'.heap.size t b ∧ Below w.heap.size w w'

set_option maxRecDepth 100000 in
theorem empty_any (w : World) (ht : Sh.Tab w 1) (hw : 1 < w.heap.size) : Calls Tryd.prog 36 #[] w fun e w' => e = .returned (.agg (Sh.bcells (Sh.Sha.sum []))) ∧ Below w.heap.size w w' := by
  have hz49 := zero49
  have hb1 : Below w.heap.size w (w.alloc (.cells (zb 32) 29)) := (Below.refl _ _).alloc (Nat.le_refl _) _
  have hsz : (w.alloc (.cells (zb 32) 29)).heap.size = w.heap.size + 1 := size_alloc _ _
  have HSUM := Lib.hid (Sh.sum_any none 0 0 [] (w.alloc (.cells (zb 32) 29)) ⟨rfl, fun h => absurd h (by omega)⟩ (by omega) (Sh.tab_below ht hb1 hw) (by omega))
  have HW := Lib.hid (Whole.made w 29 (zb 32))
  clear ht
  go_enter Tryd.func36, Tryd.ntmps36
  go_wp2_with fail
  refine HSUM.out.mono ?_
  rintro e w2 ⟨rfl, hb2⟩
  have HB := Lib.hid (hb1.trans (hb2.mono hb1.size))
  have HW2 := Lib.hid (HW.out.below hb2 (by omega))
  clear hb1 hb2 hsz HSUM HW hz49
  obtain ⟨Y, hY⟩ : ∃ Y, Sh.bcells (Sh.Sha.sum []) = Y := ⟨_, rfl⟩
  have hsizeY : Y.size = 32 := by rw [← hY, Sh.bcells_size, Sh.sum_length]
  have honeY : Y.all (·.oneCell') = true := by rw [← hY]; exact Sh.bcells_one _
  rw [show ([] : List (List UInt8)).flatten = [] from rfl, hY]
  have HY := Lib.hid hY
  clear hY
  simp only []
  go_step
  refine wpList_store_mid rfl 29 (.tmp 0) (.tmp 1) rfl w.heap.size 0 Y rfl rfl ?_ ?_ honeY ?_
  · rw [hsizeY]; have := HW2.out.there_; rw [zb_size] at this; exact this
  · rw [hsizeY]; exact info49
  have HW8 := Lib.hid (HW2.out.setAll (vs := Y) (by rw [zb_size, hsizeY]))
  have HB8 := Lib.hid (below_setCells w w.heap.size Y.toList 0 HB.out (by omega))
  generalize w2.setCells w.heap.size 0 Y.toList = w8 at *
  go_wp2_with fail
  refine bodyPost_ret (results_cell1 Tryd.results36 _ _ _ ⟨w.heap.size, 0, none⟩ _ rfl (load_whole HW8.out 29 _ Tryd.underlying29 rfl (by rw [hsizeY]; exact info49))) rfl ⟨by rw [HY.out], HB8.out⟩

def z64 : Array Value := (acells (.slice none 0 0) (.slice none 0 0) 0 0 z32 z32).toArray
def z88 : Array Value := (ncells (.slice none 0 0) (.slice none 0 0) 0 0 z32 z32 z32 (ptr none) (ptr none)).toArray
theorem zero64 : ∀ w, (zeroValue 47).run Tryd.prog w = .ok (.agg z64) w := (zero_of_info (P := Tryd.prog) (t := 47) (v := .agg z64) (n := 68) (by kernel_rfl)).1
theorem zero88 : ∀ w, (zeroValue 82).run Tryd.prog w = .ok (.agg z88) w := (zero_of_info (P := Tryd.prog) (t := 82) (v := .agg z88) (n := 102) (by kernel_rfl)).1

section
variable {w : World} {g : Nat} {t : TypeId} {kv vv x y : Value} {h : Int} {z : Nat} {l r s s' : List UInt8}
theorem ncells_arange (hw : Whole w g t (ncells kv vv h z l r s x y).toArray) : w.rangeAt g 0 (acells kv vv h z l r) := fun j v hv =>
  hw.at_ (by
    have hj := (List.getElem?_eq_some_iff.1 hv).1
    rw [Nat.zero_add, List.getElem?_toArray, ncells, List.getElem?_append_left hj, hv])
theorem ncells_store (hw : Whole w g t (ncells kv vv h z l r s x y).toArray) (hl : l.length = 32) (hr : r.length = 32) (hs : s.length = 32) (hs' : s'.length = 32) : Whole (w.setCells g 68 (s'.map V8)) g t (ncells kv vv h z l r s' x y).toArray := by
  have := Whole.setCells (s'.map V8) (acells kv vv h z l r) (s.map V8) [x, y] hw (by simp [hs, hs'])
  rwa [acells_len _ _ _ _ _ _ hl hr] at this
end

set_option maxRecDepth 100000 in
set_option maxHeartbeats 1000000 in
theorem leaf_any (A : Option Addr) (n c : Nat) (A' : Option Addr) (n' c' : Nat) (k v : List UInt8) (w : World) (hk : Rd w w.heap.size A n k) (hv : Rd w w.heap.size A' n' v) (hn : n ≤ 96) (hn' : n' ≤ 256)
    (ht : Sh.Tab w 1) (hw : Room G w) : Calls Tryd.prog 37 #[.slice A n c, .slice A' n' c'] w (NodePost G (.leaf k v) w) := by
  have hw1 := hw.1
  have HG := Lib.hid hw
  clear hw
  have hz64 := zero64
  have hz88 := zero88
  have HK := Lib.hid hk
  have HV := Lib.hid hv
  have HT := Lib.hid ht
  clear hk hv ht
  go_enter Tryd.func37, Tryd.ntmps37
  go_wp2_with fail
  refine (clone_new A n c k w HK.out (by omega)).mono ?_
  rintro e w1 ⟨A1, n1, c1, rfl, hr1, hnc1, hg1, hb1⟩
  have HG1 := Lib.hid hg1
  clear hg1
  have HR1 := Lib.hid hr1
  have HB1 := Lib.hid hb1
  clear hr1 hb1
  go_wp2_with fail
  refine (clone_new A' n' c' v w1 ((HV.out.below HB1.out (Nat.le_refl _)).more HB1.out.size) (by omega)).mono ?_
  rintro e w2 ⟨A2, n2, c2, rfl, hr2, hnc2, hg2, hb2⟩
  have HG2 := Lib.hid hg2
  clear hg2
  have HR2 := Lib.hid hr2
  have HB2 := Lib.hid hb2
  clear hr2 hb2
  go_upto_region 2 with (fail)
  have e88 : Array.foldl (fun cs x => cs.setIfInBounds x.snd x.fst) z88 (((z64.setIfInBounds 0 (Value.slice A1 n1 c1)).setIfInBounds 1 (Value.slice A2 n2 c2)).setIfInBounds 3 (Value.int IntKind.u64 1)).zipIdx 0 z64.size
      = (ncells (.slice A1 n1 c1) (.slice A2 n2 c2) 0 1 z32 z32 z32 (ptr none) (ptr none)).toArray := by kernel_rfl
  rw [e88]
  clear hz64 hz88 e88
  clear h
  have hw3 := Whole.made w2 82 (ncells (.slice A1 n1 c1) (.slice A2 n2 c2) 0 1 z32 z32 z32 (ptr none) (ptr none)).toArray
  have hb3 : Below w2.heap.size w2 (w2.alloc (.cells (ncells (.slice A1 n1 c1) (.slice A2 n2 c2) 0 1 z32 z32 z32 (ptr none) (ptr none)).toArray 82)) := (Below.refl _ _).alloc (Nat.le_refl _) _
  generalize hX : (ncells (.slice A1 n1 c1) (.slice A2 n2 c2) 0 1 z32 z32 z32 (ptr none) (ptr none)).toArray = X at *
  generalize w2.alloc (.cells X 82) = w3 at *
  subst hX
  have hb : Below w.heap.size w w3 := (HB1.out.trans (HB2.out.mono HB1.out.size)).trans (hb3.mono (Nat.le_trans HB1.out.size HB2.out.size))
  have hg1 : Rd w3 w2.heap.size A1 n1 k := ((HR1.out.below HB2.out (Nat.le_refl _)).more HB2.out.size).below hb3 (Nat.le_refl _)
  have hg2 : Rd w3 w2.heap.size A2 n2 v := HR2.out.below hb3 (Nat.le_refl _)
  have hr1 : Rd w3 w3.heap.size A1 n1 k := hg1.more hb3.size
  have hr2 : Rd w3 w3.heap.size A2 n2 v := hg2.more hb3.size
  have hn1 : n1 ≤ 96 := by have h1 := hr1.len; have h2 := HK.out.len; omega
  have hn2 : n2 ≤ 256 := by have h1 := hr2.len; have h2 := HV.out.len; omega
  have hs3 := Nat.le_trans HB1.out.size HB2.out.size
  have HH := Lib.hid (hash_leaf A1 n1 c1 A2 n2 c2 1 z32 z32 k v w3 hr1 hr2 hnc1 hnc2 (by omega) (by omega) (Sh.tab_below HT.out hb hw1) (by have := hb.size; omega))
  have HR1' := Lib.hid hg1
  have HR2' := Lib.hid hg2
  have HB := Lib.hid hb
  have HW3 := Lib.hid hw3
  have HGD : Hid (G w2.heap.size ∧ (0 < n1 → ∀ b' o, A1 = some ⟨b', o, none⟩ → G b') ∧ (0 < n2 → ∀ b' o, A2 = some ⟨b', o, none⟩ → G b')) := Lib.hid ⟨HG.out.2 _ hs3, fun _ b o e => HG.out.2 _ (HG1.out b o e).1, fun _ b o e => HG.out.2 _ (Nat.le_trans HB1.out.size (HG2.out b o e).1)⟩
  clear hw3 hb3 hb hr1 hr2 hg1 hg2 HR1 HR2 HB1 HB2 HK HV HT HG HG1 HG2
  generalize w2.heap.size = g at *
  refine wp_region_lit ?_
  iterate 12 go_step
  refine wpList_load_mid rfl 47 (.tmp 16) rfl g 0 rfl _ _ (ncells_arange HW3.out) Tryd.underlying47 rfl (by rw [acells_len _ _ _ _ _ _ rfl rfl]; exact info64) ?_
  go_wp2_with fail
  refine HH.out.mono ?_
  rintro e w4 ⟨rfl, hb4⟩
  have hw4 := HW3.out.below hb4 HW3.out.lt
  have HB4 := Lib.hid (HB.out.trans (hb4.mono HB.out.size))
  have HR14 := Lib.hid (HR1'.out.below hb4 (Nat.le_of_lt HW3.out.lt))
  have HR24 := Lib.hid (HR2'.out.below hb4 (Nat.le_of_lt HW3.out.lt))
  have HW4 := Lib.hid hw4
  clear hw4 hb4 HH HB HW3 HR1' HR2'
  obtain ⟨S, hS⟩ : ∃ S, Sh.Sha.sum (leafText k v) = S := ⟨_, rfl⟩
  have hS32 : S.length = 32 := by rw [← hS]; exact Sh.sum_length _
  have hsizeY : (Sh.bcells S).size = 32 := (Sh.bcells_size S).trans hS32
  rw [hS]
  have HS := Lib.hid hS
  clear hS
  simp only []
  iterate 7 go_step
  refine wpList_store_mid rfl 29 (.tmp 20) (.tmp 18) rfl g 68 (Sh.bcells S) rfl rfl ?_ ?_ (Sh.bcells_one S) ?_
  · rw [hsizeY]; exact HW4.out.midthere 68 32 (by rw [List.size_toArray, ncells_len _ _ _ _ _ _ _ _ _ rfl rfl rfl]; omega)
  · rw [hsizeY]; exact info49
  have hw5 := ncells_store HW4.out rfl rfl rfl hS32
  have hb5 := below_setCells w g (S.map V8) 68 HB4.out hs3
  have hs5 := size_setCells g (S.map V8) 68 w4
  have hbz : Below g w4 (w4.setCells g 68 (S.map V8)) := below_setCells w4 g (S.map V8) 68 (Below.refl _ _) (Nat.le_refl _)
  have HW5 := Lib.hid hw5
  have HB5 := Lib.hid hb5
  have HR15 := Lib.hid (HR14.out.below hbz (Nat.le_refl _))
  have HR25 := Lib.hid (HR24.out.below hbz (Nat.le_refl _))
  clear hw5 hb5 hs5 hbz HW4 HB4 HR14 HR24
  show wpList _ _ _ _ _ (w4.setCells g 68 (S.map V8))
  generalize w4.setCells g 68 (S.map V8) = w5 at *
  go_wp2_with fail
  go_ret
  have hlt := HW5.out.lt
  have hle := Nat.le_of_lt hlt
  refine ⟨g, rfl, ⟨A1, n1, c1, A2, n2, c2, ⟨hlt, ?_, HR15.out.more hle, hnc1, hn1, HR25.out.more hle, hnc2, hn2, HGD.out⟩⟩, HB5.out⟩
  rw [← HS.out] at HW5
  exact HW5.out
end Go.Proofs.YtolkpjbbfopmnaaDoor
