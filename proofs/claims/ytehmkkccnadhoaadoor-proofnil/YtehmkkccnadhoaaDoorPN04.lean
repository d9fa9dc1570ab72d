/-
  What tree.Hash returns for a leaf: the sum of the text that the chapter gives; conditions: its bytes are read, the table holds its words. It only makes memory of its own.
  What tree.Hash returns for an inner node: the sum of the text that the chapter gives; conditions: the table holds its words, its sums have 32 bytes. It only makes memory of its own.
  What leaf returns: a new leaf; conditions: its bytes are read, the table holds its words. It only makes memory of its own.
  What above returns: a new inner node above two; conditions: both lie in memory, their leaves are no more than 4294967296, the table holds its words. It only makes memory of its own.
  What leaningLeft and leaningRight return: a node above what is beneath two, turned; conditions: both lie in memory, their leaves are no more than 4294967296, the table holds its words. They only make memory of their own.
  What balanced returns: a balanced node above two; conditions: both lie in memory, their leaves are no more than 4294967296, the table holds its words. It only makes memory of its own.
  What beside and with return: a tree with one more leaf; conditions: tree and leaf lie in memory, there are fewer than 4294967296 leaves, the table holds its words. They only make memory of their own.
-/
import Derived.Deep.RegionHeld3
import Derived.Test.YtehmkkccnadhoaaDoorPN03
namespace Go.Proofs.YtehmkkccnadhoaaDoor
open Go.RowKit
open Tr

theorem u8_len (n : Nat) : IntKind.u8.wrap (n : Int) = ((UInt8.ofNat n).toNat : Int) := by
  simp [IntKind.wrap, IntKind.bits, IntKind.signed]
/-- The cells of a boxed node. -/
theorem abox {w : World} {g : Nat} {t : TypeId} {kv vv : Value} {h : Int} {z : Nat} {l r : List UInt8} (hw : Whole w g t (acells kv vv h z l r).toArray) :
    w.cell? ⟨g, 0, none⟩ = some kv ∧ w.cell? ⟨g, 1, none⟩ = some vv ∧ w.cell? ⟨g, 2, none⟩ = some (.int .i64 h) ∧ w.cell? ⟨g, 3, none⟩ = some (.int .u64 z) :=
  ⟨hw.at_ rfl, hw.at_ rfl, hw.at_ rfl, hw.at_ rfl⟩

set_option maxRecDepth 100000 in
set_option maxHeartbeats 1000000 in
theorem hash_leaf (A : Option Addr) (n c : Nat) (A' : Option Addr) (n' c' : Nat) (z : Nat) (l r k v : List UInt8) (w : World) (hk : Rd w w.heap.size A n k) (hv : Rd w w.heap.size A' n' v) (hnc : n ≤ c) (hnc' : n' ≤ c') (hn : n ≤ 100000) (hn' : n' ≤ 100000)
    (ht : Sh.Tab w 2) (hw : 2 < w.heap.size) :
    Calls Tryd.prog 39 #[.agg (acells (.slice A n c) (.slice A' n' c') 0 z l r).toArray] w fun e w' => e = .returned (.agg (Sh.bcells (Sh.Sha.sum (leafText k v)))) ∧ Below w.heap.size w w' := by
  have hz49 := zero49
  have HK := Lib.hid hk
  have HV := Lib.hid hv
  have HT := Lib.hid ht
  clear hk hv ht
  go_enter Tryd.func39, Tryd.ntmps39
  go_upto_region 1 with (fail)
  clear hz49
  have hb : Below w.heap.size w ((w.alloc (.cells (acells (.slice A n c) (.slice A' n' c') 0 z l r).toArray 67)).alloc (.cells (zb 32) 44)) := ((Below.refl _ _).alloc (Nat.le_refl _) _).alloc (by simp) _
  have hw1 := (Whole.made w 67 (acells (.slice A n c) (.slice A' n' c') 0 z l r).toArray).alloc (.cells (zb 32) 44)
  have hw2 := Whole.made (w.alloc (.cells (acells (.slice A n c) (.slice A' n' c') 0 z l r).toArray 67)) 44 (zb 32)
  rw [size_alloc] at hw2
  have hs : w.heap.size + 1 < ((w.alloc (.cells (acells (.slice A n c) (.slice A' n' c') 0 z l r).toArray 67)).alloc (.cells (zb 32) 44)).heap.size := by simp
  generalize (w.alloc (.cells (acells (.slice A n c) (.slice A' n' c') 0 z l r).toArray 67)).alloc (.cells (zb 32) 44) = w1 at *
  obtain ⟨c0, c1, c2, c3⟩ := abox hw1
  have hv1 := HV.out.below hb (Nat.le_refl _)
  have hba : Below w.heap.size w (w1.alloc (.cells #[.slice A' n' c'] 22)) := hb.alloc hb.size _
  have hsum := Sh.sum_any _ 1 1 [v] _ (Sh.parts_one w1 22 A' n' c' _ (reads_of_rd hv1 hb.size) hnc' (by omega)) (by omega) (Sh.tab_below HT.out hba hw) (by simp; omega)
  rw [show [v].flatten = v by simp] at hsum
  have HSUM := Lib.hid hsum
  have HB := Lib.hid hb
  have HW1 := Lib.hid hw1
  have HW2 := Lib.hid hw2
  clear hb hw1 hw2 hv1 hba hsum c3
  generalize (acells (.slice A n c) (.slice A' n' c') 0 z l r).toArray = X at *
  go_wp2_with fail
  refine HSUM.out.mono ?_
  rintro e w2 ⟨rfl, hb2⟩
  have hsz : (w1.alloc (.cells #[.slice A' n' c'] 22)).heap.size = w1.heap.size + 1 := size_alloc _ _
  have hbx : Below w1.heap.size w1 w2 := ((Below.refl _ _).alloc (Nat.le_refl _) _).trans (hb2.mono (by omega))
  have HBX := Lib.hid hbx
  clear hb2 HSUM hsz hbx
  obtain ⟨S, hS⟩ : ∃ S, Sh.Sha.sum v = S := ⟨_, rfl⟩
  have hS32 : S.length = 32 := by rw [← hS]; exact Sh.sum_length _
  rw [hS]
  have HS := Lib.hid (And.intro hS hS32)
  clear hS hS32
  simp only []
  have hz49 := zero49
  iterate 4 go_step
  clear hz49
  have hw3 := Whole.made w2 44 (zb 32)
  have hsizeS : (Sh.bcells S).size = 32 := (Sh.bcells_size S).trans HS.out.2
  refine wpList_store_mid rfl 44 (.tmp 3) (.tmp 10) rfl w2.heap.size 0 (Sh.bcells S) rfl rfl ?_ ?_ (Sh.bcells_one S) ?_
  · rw [hsizeS]; have := hw3.there_; rw [zb_size] at this; exact this
  · rw [hsizeS]; exact info49
  have hw4 := hw3.setAll (vs := Sh.bcells S) (by rw [zb_size, hsizeS])
  have hb4 : Below w1.heap.size w1 ((w2.alloc (.cells (zb 32) 44)).setCells w2.heap.size 0 (Sh.bcells S).toList) := below_setCells w1 w2.heap.size _ 0 (HBX.out.alloc HBX.out.size _) HBX.out.size
  have hs4 : w1.heap.size ≤ w2.heap.size := HBX.out.size
  have hlt4 : w2.heap.size < ((w2.alloc (.cells (zb 32) 44)).setCells w2.heap.size 0 (Sh.bcells S).toList).heap.size := by rw [size_setCells, size_alloc]; omega
  generalize (w2.alloc (.cells (zb 32) 44)).setCells w2.heap.size 0 (Sh.bcells S).toList = w4 at *
  have d0 : w4.cell? ⟨w.heap.size, 0, none⟩ = some (.slice A n c) := by rw [hb4.cell (p := ⟨w.heap.size, 0, none⟩) (by show w.heap.size < _; omega)]; exact c0
  have HB4 := Lib.hid (HB.out.trans (hb4.mono HB.out.size))
  have HW4 := Lib.hid hw4
  have HR4 := Lib.hid (HW2.out.below hb4 hs)
  generalize w2.heap.size = g3 at *
  clear hw3 hsizeS hw4 hb4 HBX HW2 HB HW1 c0 c1 c2
  go_upto_region 3 with (fail)
  have hS0 : w4.drew.cell? ⟨w.heap.size, 0, none⟩ = some (.slice A n c) := d0
  refine wp_region_held_drew (S := fun w' => w'.cell? ⟨w.heap.size, 0, none⟩ = some (.slice A n c)) (by kernel_rfl) hS0 (fun hHeld => ?_)
  refine wpAnyH_take (i := 0) (oi := { dst := some 11, op := Op.fieldAddr 67 (Operand.tmp 1) 0, type := 0, pos := "tree.go:27", after := #[], guard := none }) (v := ?_) rfl (by kernel_rfl) (by kernel_rfl) (by kernel_rfl) (fun _ _ _ h => h) (Or.inl ⟨by rfl, ?_⟩) (by assumption) ?_
  rotate_left
  · first | (intro w hSw; (try dsimp only at hSw); go_simp; done) | (intro w hSw; (try dsimp only at hSw); go_simp; with_reducible rfl)
  simp only [Act.put, List.setIfInBounds_toArray, List.set_cons_zero, List.set_cons_succ]
  refine wpAnyH_take (i := 1) (oi := { dst := some 12, op := Op.load 22 (Operand.tmp 11), type := 22, pos := "tree.go:27", after := #[{ on := 0, ground := Ground.data }], guard := none }) (v := ?_) rfl (by kernel_rfl) (by kernel_rfl) (by kernel_rfl) (fun _ _ _ h => h) (Or.inl ⟨by rfl, ?_⟩) (by assumption) ?_
  rotate_left
  · first | (intro w hSw; (try dsimp only at hSw); go_simp; done) | (intro w hSw; (try dsimp only at hSw); go_simp; with_reducible rfl)
  simp only [Act.put, List.setIfInBounds_toArray, List.set_cons_zero, List.set_cons_succ]
  refine wpAnyH_take (i := 2) (oi := { dst := some 13, op := Op.call { callee := Callee.builtin Builtin.len, args := #[Operand.tmp 12], argTypes := #[22] }, type := 3, pos := "tree.go:27", after := #[{ on := 1, ground := Ground.data }], guard := none }) (v := ?_) rfl (by kernel_rfl) (by kernel_rfl) (by kernel_rfl) (fun _ _ _ h => h) (Or.inl ⟨by rfl, ?_⟩) (by assumption) ?_
  rotate_left
  · first | (intro w hSw; (try dsimp only at hSw); go_simp; done) | (intro w hSw; (try dsimp only at hSw); go_simp; with_reducible rfl)
  simp only [Act.put, List.setIfInBounds_toArray, List.set_cons_zero, List.set_cons_succ]
  refine wpAnyH_take (i := 3) (oi := { dst := some 14, op := Op.convert 3 5 (Operand.tmp 13), type := 5, pos := "tree.go:27", after := #[{ on := 2, ground := Ground.data }], guard := none }) (v := ?_) rfl (by kernel_rfl) (by kernel_rfl) (by kernel_rfl) (fun _ _ _ h => h) (Or.inl ⟨by rfl, ?_⟩) (by assumption) ?_
  rotate_left
  · first | (intro w hSw; (try dsimp only at hSw); go_simp; done) | (intro w hSw; (try dsimp only at hSw); go_simp; with_reducible rfl)
  simp only [Act.put, List.setIfInBounds_toArray, List.set_cons_zero, List.set_cons_succ]
  refine wpAnyH_take (i := 5) (oi := { dst := some 16, op := Op.fieldAddr 67 (Operand.tmp 1) 0, type := 0, pos := "tree.go:27", after := #[], guard := none }) (v := ?_) rfl (by kernel_rfl) (by kernel_rfl) (by kernel_rfl) (fun _ _ _ h => h) (Or.inl ⟨by rfl, ?_⟩) (by assumption) ?_
  rotate_left
  · first | (intro w hSw; (try dsimp only at hSw); go_simp; done) | (intro w hSw; (try dsimp only at hSw); go_simp; with_reducible rfl)
  simp only [Act.put, List.setIfInBounds_toArray, List.set_cons_zero, List.set_cons_succ]
  refine wpAnyH_take (i := 6) (oi := { dst := some 17, op := Op.load 22 (Operand.tmp 16), type := 22, pos := "tree.go:27", after := #[{ on := 5, ground := Ground.data }], guard := none }) (v := ?_) rfl (by kernel_rfl) (by kernel_rfl) (by kernel_rfl) (fun _ _ _ h => h) (Or.inl ⟨by rfl, ?_⟩) (by assumption) ?_
  rotate_left
  · first | (intro w hSw; (try dsimp only at hSw); go_simp; done) | (intro w hSw; (try dsimp only at hSw); go_simp; with_reducible rfl)
  simp only [Act.put, List.setIfInBounds_toArray, List.set_cons_zero, List.set_cons_succ]
  refine wpAnyH_take (i := 7) (oi := { dst := some 18, op := Op.slice 44 (Operand.tmp 3) none none none, type := 22, pos := "tree.go:27", after := #[], guard := none }) (v := ?_) rfl (by kernel_rfl) (by kernel_rfl) (by kernel_rfl) (fun _ _ _ h => h) (Or.inl ⟨by rfl, ?_⟩) (by assumption) ?_
  rotate_left
  · first | (intro w hSw; (try dsimp only at hSw); go_simp; done) | (intro w hSw; (try dsimp only at hSw); go_simp; with_reducible rfl)
  simp only [Act.put, List.setIfInBounds_toArray, List.set_cons_zero, List.set_cons_succ]
  refine wpAnyH_ready (rs := [4]) (by kernel_rfl) (by simp) ?_
  refine AllReadyH.cons rfl (fun K hK => ?_) AllReadyH.nil
  go_simp
  have hb5 : Below w4.heap.size w4 (w4.alloc (.cells #[.int .u8 0, .int .u8 (IntKind.u8.wrap (n : Int))] 5)).drew := ((Below.refl _ _).alloc (Nat.le_refl _) _).drew
  have hr5 : Rd (w4.alloc (.cells #[.int .u8 0, .int .u8 (IntKind.u8.wrap (n : Int))] 5)).drew (w4.heap.size + 1) (some ⟨w4.heap.size, 0, none⟩) 2 [0, UInt8.ofNat n] :=
    rd_new w4 5 [0, UInt8.ofNat n] 2 rfl _ (by rw [u8_len]; rfl)
  have hsz5 : (w4.alloc (.cells #[.int .u8 0, .int .u8 (IntKind.u8.wrap (n : Int))] 5)).drew.heap.size = w4.heap.size + 1 := size_alloc _ _
  generalize (w4.alloc (.cells #[.int .u8 0, .int .u8 (IntKind.u8.wrap (n : Int))] 5)).drew = w5 at *
  have d5 : w5.cell? ⟨w.heap.size, 0, none⟩ = some (.slice A n c) := by rw [hb5.cell (p := ⟨w.heap.size, 0, none⟩) (by show w.heap.size < _; omega)]; exact d0
  have HW5 := Lib.hid (HW4.out.below hb5 hlt4)
  have HR5 := Lib.hid (HR4.out.below hb5 (by omega))
  have HB5 := Lib.hid (HB4.out.trans (hb5.mono HB4.out.size))
  have HRD5 := Lib.hid hr5
  have hgg : w4.heap.size < w5.heap.size := by omega
  refine hK.out _ _ d5 (fun _ => ?_)
  clear hK K hHeld hS0 d0 HW4 HR4 HB4 hb5 hr5 hsz5
  generalize w4.heap.size = g4 at *
  refine wpAnyH_ready (rs := [8]) (by kernel_rfl) (by simp) ?_
  refine AllReadyH.cons rfl (fun K hK => ?_) AllReadyH.nil
  go_simp
  have hb6 : Below w5.heap.size w5 (w5.alloc (.cells #[.slice (some ⟨g4, 0, none⟩) 2 2, .slice A n c, .slice (some ⟨g3, 0, none⟩) 32 32] 22)) := (Below.refl _ _).alloc (Nat.le_refl _) _
  have hp6 := Sh.parts_three w5 22 (some ⟨g4, 0, none⟩) A (some ⟨g3, 0, none⟩) 2 n 32 2 c 32 [0, UInt8.ofNat n] k S (reads_of_rd HRD5.out hgg) (reads_of_rd (HK.out.below HB5.out (Nat.le_refl _)) HB5.out.size)
    (reads_of_rd (B := w5.heap.size) (Rd.mk_ HS.out.2 g3 0 HW5.out.lt fun j u hu => HW5.out.at_ (by rw [Nat.zero_add, Sh.bcells, List.getElem?_toArray, List.getElem?_map, hu]; rfl)) (Nat.le_refl _)) (Nat.le_refl _) hnc (Nat.le_refl _) (by omega) (by omega) (by omega)
  have HB6 := Lib.hid (HB5.out.trans (hb6.mono HB5.out.size))
  have hsz6 : (w5.alloc (.cells #[.slice (some ⟨g4, 0, none⟩) 2 2, .slice A n c, .slice (some ⟨g3, 0, none⟩) 32 32] 22)).heap.size = w5.heap.size + 1 := size_alloc _ _
  have hsum := Sh.sum_any _ 3 3 _ _ hp6 (by omega) (Sh.tab_below HT.out HB6.out hw) (by omega)
  have htxt : [[0, UInt8.ofNat n], k, S].flatten = leafText k v := by
    rw [leafText, HS.out.1, HK.out.len]; simp
  rw [htxt] at hsum
  have HSUM := Lib.hid hsum
  have hg6 : w.heap.size + 1 < (w5.alloc (.cells #[.slice (some ⟨g4, 0, none⟩) 2 2, .slice A n c, .slice (some ⟨g3, 0, none⟩) 32 32] 22)).heap.size := by omega
  have HR6 := Lib.hid (HR5.out.below hb6 (by omega))
  have d6 : (w5.alloc (.cells #[.slice (some ⟨g4, 0, none⟩) 2 2, .slice A n c, .slice (some ⟨g3, 0, none⟩) 32 32] 22)).cell? ⟨w.heap.size, 0, none⟩ = some (.slice A n c) := by rw [hb6.cell (p := ⟨w.heap.size, 0, none⟩) (by show w.heap.size < _; omega)]; exact d5
  refine hK.out _ _ d6 (fun _ => ?_)
  clear hK K hp6 hb6 hsum htxt HRD5 d5 HW5 HR5 HB5 hsz6
  generalize w5.alloc (.cells #[.slice (some ⟨g4, 0, none⟩) 2 2, .slice A n c, .slice (some ⟨g3, 0, none⟩) 32 32] 22) = w6 at *
  refine wpAnyH_ready (rs := [9]) (by kernel_rfl) (by simp) ?_
  refine AllReadyH.cons rfl (fun K hK => ?_) AllReadyH.nil
  go_simp
  refine HSUM.out.mono ?_
  rintro e w7 ⟨rfl, hb7⟩
  have d7 : w7.cell? ⟨w.heap.size, 0, none⟩ = some (.slice A n c) := by rw [hb7.cell (p := ⟨w.heap.size, 0, none⟩) (by show w.heap.size < _; omega)]; exact d6
  have HR7 := Lib.hid (HR6.out.below hb7 (by omega))
  have HB7 := Lib.hid (HB6.out.trans (hb7.mono HB6.out.size))
  clear hb7 HSUM HR6 HB6 d6
  obtain ⟨Y, hY⟩ : ∃ Y, Sh.bcells (Sh.Sha.sum (leafText k v)) = Y := ⟨_, rfl⟩
  have hsizeY : Y.size = 32 := by rw [← hY, Sh.bcells_size, Sh.sum_length]
  have honeY : Y.all (·.oneCell') = true := by rw [← hY]; exact Sh.bcells_one _
  rw [hY]
  have HY := Lib.hid hY
  clear hY
  refine hK.out _ _ d7 (fun _ => ?_)
  clear hK K
  refine wpAnyH_ready (rs := [10]) (by kernel_rfl) (by simp) ?_
  refine AllReadyH.cons rfl (fun K hK => ?_) AllReadyH.nil
  refine Eq.mpr (if_pos (by rfl)) ?_
  refine wp_store_mid 44 (.tmp 2) (.tmp 20) rfl (w.heap.size + 1) 0 Y rfl rfl ?_ ?_ honeY ?_
  · rw [hsizeY]; have := HR7.out.there_; rw [zb_size] at this; exact this
  · rw [hsizeY]; exact info49
  have hw8 := HR7.out.setAll (vs := Y) (by rw [zb_size, hsizeY])
  have hb8 := below_setCells w (w.heap.size + 1) Y.toList 0 HB7.out (by omega)
  have d8 : (w7.setCells (w.heap.size + 1) 0 Y.toList).cell? ⟨w.heap.size, 0, none⟩ = some (.slice A n c) := by
    rw [(below_setCells (B := w.heap.size + 1) w7 (w.heap.size + 1) Y.toList 0 (Below.refl _ _) (Nat.le_refl _)).cell (p := ⟨w.heap.size, 0, none⟩) (by show w.heap.size < _; omega)]; exact d7
  refine hK.out _ _ d8 (fun _ => ?_)
  clear hK K d7 d8 HR7 HB7
  generalize w7.setCells (w.heap.size + 1) 0 Y.toList = w8 at *
  have HW8 := Lib.hid hw8
  have HB8 := Lib.hid hb8
  clear hw8 hb8
  refine wpAnyH_done (by kernel_rfl) ?_ _
  go_wp2_with fail
  refine bodyPost_ret (results_cell1 Tryd.results39 _ _ _ ⟨w.heap.size + 1, 0, none⟩ _ rfl (load_whole HW8.out 44 _ Tryd.underlying44 rfl (by rw [hsizeY]; exact info49))) rfl ⟨by rw [HY.out], HB8.out⟩
end Go.Proofs.YtehmkkccnadhoaaDoor
namespace Go.Proofs.YtehmkkccnadhoaaDoor
open Go.RowKit
open Tr

/-- Four slices handed over as parts. -/
theorem parts_four (w : World) (t : TypeId) (A1 A2 A3 A4 : Option Addr) (n1 n2 n3 n4 c1 c2 c3 c4 : Nat) (b1 b2 b3 b4 : List UInt8) (h1 : Sh.Reads w A1 n1 b1) (h2 : Sh.Reads w A2 n2 b2) (h3 : Sh.Reads w A3 n3 b3) (h4 : Sh.Reads w A4 n4 b4)
    (k1 : n1 ≤ c1) (k2 : n2 ≤ c2) (k3 : n3 ≤ c3) (k4 : n4 ≤ c4) (m1 : n1 ≤ 140737488355328) (m2 : n2 ≤ 140737488355328) (m3 : n3 ≤ 140737488355328) (m4 : n4 ≤ 140737488355328) :
    Sh.Parts (w.alloc (.cells #[.slice A1 n1 c1, .slice A2 n2 c2, .slice A3 n3 c3, .slice A4 n4 c4] t)) (some ⟨w.heap.size, 0, none⟩) 4 [b1, b2, b3, b4] := by
  have hb : Below w.heap.size w (w.alloc (.cells #[.slice A1 n1 c1, .slice A2 n2 c2, .slice A3 n3 c3, .slice A4 n4 c4] t)) := (Below.refl _ _).alloc (Nat.le_refl _) _
  refine ⟨rfl, fun _ => ⟨w.heap.size, 0, rfl, by simp, fun j l hl => ?_⟩⟩
  have hj : j < 4 := (List.getElem?_eq_some_iff.1 hl).1
  match j, hj with
  | 0, _ => simp at hl; subst hl; exact ⟨A1, n1, c1, (Whole.made w t _).at_ rfl, k1, m1, h1.below hb⟩
  | 1, _ => simp at hl; subst hl; exact ⟨A2, n2, c2, (Whole.made w t _).at_ rfl, k2, m2, h2.below hb⟩
  | 2, _ => simp at hl; subst hl; exact ⟨A3, n3, c3, (Whole.made w t _).at_ rfl, k3, m3, h3.below hb⟩
  | 3, _ => simp at hl; subst hl; exact ⟨A4, n4, c4, (Whole.made w t _).at_ rfl, k4, m4, h4.below hb⟩

/-- The two sums in a boxed node, read as bytes. -/
theorem abox_l {w : World} {g : Nat} {t : TypeId} {kv vv : Value} {h : Int} {z : Nat} {l r : List UInt8} (hw : Whole w g t (acells kv vv h z l r).toArray) (hl : l.length = 32) : Rd w w.heap.size (some ⟨g, 4, none⟩) 32 l :=
  Rd.mk_ hl g 4 hw.lt fun j v hv => hw.at_ (by
    have hj := (List.getElem?_eq_some_iff.1 hv).1
    rw [List.getElem?_toArray, acells, Nat.add_comm 4 j]
    show (List.map V8 l ++ List.map V8 r)[j]? = _
    rw [List.getElem?_append_left (by rw [List.length_map]; exact hj), List.getElem?_map, hv]; rfl)
theorem abox_r {w : World} {g : Nat} {t : TypeId} {kv vv : Value} {h : Int} {z : Nat} {l r : List UInt8} (hw : Whole w g t (acells kv vv h z l r).toArray) (hl : l.length = 32) (hr : r.length = 32) : Rd w w.heap.size (some ⟨g, 36, none⟩) 32 r :=
  Rd.mk_ hr g 36 hw.lt fun j v hv => hw.at_ (by
    rw [List.getElem?_toArray, acells, show 36 + j = (32 + j) + 4 by omega]
    show (List.map V8 l ++ List.map V8 r)[32 + j]? = _
    rw [List.getElem?_append_right (by rw [List.length_map]; omega), List.length_map, hl, Nat.add_sub_cancel_left, List.getElem?_map, hv]; rfl)

set_option maxRecDepth 100000 in
set_option maxHeartbeats 2000000 in
theorem hash_inner (kv vv : Value) (h : Int) (hb8 : UInt8) (z : UInt64) (l r : List UInt8) (w : World) (hh : h ≠ 0) (hbyte : IntKind.u8.wrap h = (hb8.toNat : Int)) (hl : l.length = 32) (hr : r.length = 32)
    (ht : Sh.Tab w 2) (hw : 2 < w.heap.size) :
    Calls Tryd.prog 39 #[.agg (acells kv vv h z.toNat l r).toArray] w fun e w' => e = .returned (.agg (Sh.bcells (Sh.Sha.sum (innerText hb8 z l r)))) ∧ Below w.heap.size w w' := by
  have hz49 := zero49
  have HT := Lib.hid ht
  have HL := Lib.hid (And.intro hl hr)
  have HBY := Lib.hid hbyte
  have hh0 : (h == 0) = false := by rw [beq_eq_false_iff_ne]; exact hh
  clear ht hl hr hbyte hh
  go_enter Tryd.func39, Tryd.ntmps39
  go_upto_region 1 with (fail)
  clear hz49
  have hb : Below w.heap.size w ((w.alloc (.cells (acells kv vv h z.toNat l r).toArray 67)).alloc (.cells (zb 32) 44)) := ((Below.refl _ _).alloc (Nat.le_refl _) _).alloc (by simp) _
  have hw1 := (Whole.made w 67 (acells kv vv h z.toNat l r).toArray).alloc (.cells (zb 32) 44)
  have hw2 := Whole.made (w.alloc (.cells (acells kv vv h z.toNat l r).toArray 67)) 44 (zb 32)
  rw [size_alloc] at hw2
  have hs : w.heap.size + 1 < ((w.alloc (.cells (acells kv vv h z.toNat l r).toArray 67)).alloc (.cells (zb 32) 44)).heap.size := by simp
  generalize (w.alloc (.cells (acells kv vv h z.toNat l r).toArray 67)).alloc (.cells (zb 32) 44) = w1 at *
  obtain ⟨_, _, c2, c3⟩ := abox hw1
  have HB := Lib.hid hb
  have HW1 := Lib.hid hw1
  have HW2 := Lib.hid hw2
  clear hb hw1 hw2
  obtain ⟨X, hX⟩ : ∃ X, (acells kv vv h z.toNat l r).toArray = X := ⟨_, rfl⟩
  rw [hX] at HW1 ⊢
  have HX := Lib.hid hX
  clear hX
  go_upto_region 4 with (fail)
  have hS0 : w1.drew.cell? ⟨w.heap.size, 2, none⟩ = some (.int .i64 h) ∧ w1.drew.cell? ⟨w.heap.size, 3, none⟩ = some (.int .u64 z.toNat) := ⟨c2, c3⟩
  refine wp_region_held_drew (S := fun w' => w'.cell? ⟨w.heap.size, 2, none⟩ = some (.int .i64 h) ∧ w'.cell? ⟨w.heap.size, 3, none⟩ = some (.int .u64 z.toNat)) (by kernel_rfl) hS0 (fun hHeld => ?_)
  refine wpAnyH_take (i := 0) (oi := { dst := some 21, op := Op.fieldAddr 67 (Operand.tmp 1) 2, type := 0, pos := "tree.go:29", after := #[], guard := none }) (v := ?_) rfl (by kernel_rfl) (by kernel_rfl) (by kernel_rfl) (fun _ _ _ h => h) (Or.inl ⟨by rfl, ?_⟩) (by assumption) ?_
  rotate_left
  · first | (intro w hSw; (try dsimp only at hSw); go_simp; done) | (intro w hSw; (try dsimp only at hSw); go_simp; with_reducible rfl)
  simp only [Act.put, List.setIfInBounds_toArray, List.set_cons_zero, List.set_cons_succ]
  refine wpAnyH_take (i := 1) (oi := { dst := some 22, op := Op.load 3 (Operand.tmp 21), type := 3, pos := "tree.go:29", after := #[{ on := 0, ground := Ground.data }], guard := none }) (v := ?_) rfl (by kernel_rfl) (by kernel_rfl) (by kernel_rfl) (fun _ _ _ h => h) (Or.inl ⟨by rfl, ?_⟩) (by assumption) ?_
  rotate_left
  · first | (intro w hSw; (try dsimp only at hSw); go_simp; done) | (intro w hSw; (try dsimp only at hSw); go_simp; with_reducible rfl)
  simp only [Act.put, List.setIfInBounds_toArray, List.set_cons_zero, List.set_cons_succ]
  refine wpAnyH_take (i := 2) (oi := { dst := some 23, op := Op.convert 3 5 (Operand.tmp 22), type := 5, pos := "tree.go:29", after := #[{ on := 1, ground := Ground.data }], guard := none }) (v := ?_) rfl (by kernel_rfl) (by kernel_rfl) (by kernel_rfl) (fun _ _ _ h => h) (Or.inl ⟨by rfl, ?_⟩) (by assumption) ?_
  rotate_left
  · first | (intro w hSw; (try dsimp only at hSw); go_simp; done) | (intro w hSw; (try dsimp only at hSw); go_simp; with_reducible rfl)
  simp only [Act.put, List.setIfInBounds_toArray, List.set_cons_zero, List.set_cons_succ]
  refine wpAnyH_take (i := 4) (oi := { dst := some 25, op := Op.fieldAddr 67 (Operand.tmp 1) 3, type := 0, pos := "tree.go:29", after := #[], guard := none }) (v := ?_) rfl (by kernel_rfl) (by kernel_rfl) (by kernel_rfl) (fun _ _ _ h => h) (Or.inl ⟨by rfl, ?_⟩) (by assumption) ?_
  rotate_left
  · first | (intro w hSw; (try dsimp only at hSw); go_simp; done) | (intro w hSw; (try dsimp only at hSw); go_simp; with_reducible rfl)
  simp only [Act.put, List.setIfInBounds_toArray, List.set_cons_zero, List.set_cons_succ]
  refine wpAnyH_take (i := 5) (oi := { dst := some 26, op := Op.load 42 (Operand.tmp 25), type := 42, pos := "tree.go:29", after := #[{ on := 4, ground := Ground.data }], guard := none }) (v := ?_) rfl (by kernel_rfl) (by kernel_rfl) (by kernel_rfl) (fun _ _ _ h => h) (Or.inl ⟨by rfl, ?_⟩) (by assumption) ?_
  rotate_left
  · first | (intro w hSw; (try dsimp only at hSw); go_simp; done) | (intro w hSw; (try dsimp only at hSw); go_simp; with_reducible rfl)
  simp only [Act.put, List.setIfInBounds_toArray, List.set_cons_zero, List.set_cons_succ]
  refine wpAnyH_take (i := 7) (oi := { dst := some 28, op := Op.fieldAddr 67 (Operand.tmp 1) 4, type := 0, pos := "tree.go:29", after := #[], guard := none }) (v := ?_) rfl (by kernel_rfl) (by kernel_rfl) (by kernel_rfl) (fun _ _ _ h => h) (Or.inl ⟨by rfl, ?_⟩) (by assumption) ?_
  rotate_left
  · first | (intro w hSw; (try dsimp only at hSw); go_simp; done) | (intro w hSw; (try dsimp only at hSw); go_simp; with_reducible rfl)
  simp only [Act.put, List.setIfInBounds_toArray, List.set_cons_zero, List.set_cons_succ]
  refine wpAnyH_take (i := 8) (oi := { dst := some 29, op := Op.slice 44 (Operand.tmp 28) none none none, type := 22, pos := "tree.go:29", after := #[{ on := 7, ground := Ground.data }], guard := none }) (v := ?_) rfl (by kernel_rfl) (by kernel_rfl) (by kernel_rfl) (fun _ _ _ h => h) (Or.inl ⟨by rfl, ?_⟩) (by assumption) ?_
  rotate_left
  · first | (intro w hSw; (try dsimp only at hSw); go_simp; done) | (intro w hSw; (try dsimp only at hSw); go_simp; with_reducible rfl)
  simp only [Act.put, List.setIfInBounds_toArray, List.set_cons_zero, List.set_cons_succ]
  refine wpAnyH_take (i := 9) (oi := { dst := some 30, op := Op.fieldAddr 67 (Operand.tmp 1) 5, type := 0, pos := "tree.go:29", after := #[], guard := none }) (v := ?_) rfl (by kernel_rfl) (by kernel_rfl) (by kernel_rfl) (fun _ _ _ h => h) (Or.inl ⟨by rfl, ?_⟩) (by assumption) ?_
  rotate_left
  · first | (intro w hSw; (try dsimp only at hSw); go_simp; done) | (intro w hSw; (try dsimp only at hSw); go_simp; with_reducible rfl)
  simp only [Act.put, List.setIfInBounds_toArray, List.set_cons_zero, List.set_cons_succ]
  refine wpAnyH_take (i := 10) (oi := { dst := some 31, op := Op.slice 44 (Operand.tmp 30) none none none, type := 22, pos := "tree.go:29", after := #[{ on := 9, ground := Ground.data }], guard := none }) (v := ?_) rfl (by kernel_rfl) (by kernel_rfl) (by kernel_rfl) (fun _ _ _ h => h) (Or.inl ⟨by rfl, ?_⟩) (by assumption) ?_
  rotate_left
  · first | (intro w hSw; (try dsimp only at hSw); go_simp; done) | (intro w hSw; (try dsimp only at hSw); go_simp; with_reducible rfl)
  simp only [Act.put, List.setIfInBounds_toArray, List.set_cons_zero, List.set_cons_succ]
  have d1 : w1.cell? ⟨w.heap.size, 2, none⟩ = some (.int .i64 h) ∧ w1.cell? ⟨w.heap.size, 3, none⟩ = some (.int .u64 z.toNat) := ⟨c2, c3⟩
  clear c2 c3 hS0 hHeld hh0
  refine wpAnyH_ready (rs := [3, 6]) (by kernel_rfl) (by simp) ?_
  refine AllReadyH.cons rfl (fun K hK => ?_) (AllReadyH.cons rfl (fun K hK => ?_) AllReadyH.nil)
  · go_simp
    have hb4 : Below w1.heap.size w1 (w1.alloc (.cells #[.int .u8 1, .int .u8 (IntKind.u8.wrap h)] 5)).drew := ((Below.refl _ _).alloc (Nat.le_refl _) _).drew
    have hr4 : Rd (w1.alloc (.cells #[.int .u8 1, .int .u8 (IntKind.u8.wrap h)] 5)).drew (w1.heap.size + 1) (some ⟨w1.heap.size, 0, none⟩) 2 [1, hb8] := rd_new w1 5 [1, hb8] 2 rfl _ (by rw [HBY.out]; rfl)
    have hg4 : w1.heap.size + 1 ≤ (w1.alloc (.cells #[.int .u8 1, .int .u8 (IntKind.u8.wrap h)] 5)).drew.heap.size := Nat.le_of_eq (size_alloc _ _).symm
    generalize (w1.alloc (.cells #[.int .u8 1, .int .u8 (IntKind.u8.wrap h)] 5)).drew = w4 at *
    have d4 : w4.cell? ⟨w.heap.size, 2, none⟩ = some (.int .i64 h) ∧ w4.cell? ⟨w.heap.size, 3, none⟩ = some (.int .u64 z.toNat) := by
      rw [hb4.cell (p := ⟨w.heap.size, 2, none⟩) (by show w.heap.size < _; omega), hb4.cell (p := ⟨w.heap.size, 3, none⟩) (by show w.heap.size < _; omega)]; exact d1
    refine hK.out _ _ d4 (fun _ => ?_)
    have HX4 := Lib.hid (HW1.out.below hb4 (by omega))
    have HR4 := Lib.hid (HW2.out.below hb4 hs)
    have HB4 := Lib.hid (HB.out.trans (hb4.mono HB.out.size))
    have HRD4 := Lib.hid hr4
    clear hK K d1 HW1 HW2 HB hb4 hr4
    generalize w1.heap.size = g4 at *
    refine wpAnyH_ready (rs := [6]) (by kernel_rfl) (by simp) ?_
    refine AllReadyH.cons rfl (fun K hK => ?_) AllReadyH.nil
    go_simp
    refine (sizeBytes_any z w4).mono ?_
    rintro e w5 ⟨Ae, ne, ce, rfl, hre, hnce, hb5⟩
    have hs5 : w.heap.size + 1 < w5.heap.size := by have := hb5.size; omega
    have d5 : w5.cell? ⟨w.heap.size, 2, none⟩ = some (.int .i64 h) ∧ w5.cell? ⟨w.heap.size, 3, none⟩ = some (.int .u64 z.toNat) := by
      rw [hb5.cell (p := ⟨w.heap.size, 2, none⟩) (by show w.heap.size < _; omega), hb5.cell (p := ⟨w.heap.size, 3, none⟩) (by show w.heap.size < _; omega)]; exact d4
    refine hK.out _ _ d5 (fun _ => ?_)
    have HX5 := Lib.hid (HX4.out.below hb5 (by omega))
    have HR5 := Lib.hid (HR4.out.below hb5 (by omega))
    have HB5 := Lib.hid (HB4.out.trans (hb5.mono HB4.out.size))
    have HRD5 := Lib.hid ((HRD4.out.below hb5 hg4).more (B' := w5.heap.size) (by have := hb5.size; omega))
    have HRE := Lib.hid hre
    clear hK K d4 HX4 HR4 HB4 HRD4 hre hb5 hg4
    refine wpAnyH_ready (rs := [11]) (by kernel_rfl) (by simp) ?_
    refine AllReadyH.cons rfl (fun K hK => ?_) AllReadyH.nil
    go_simp
    have hb6 : Below w5.heap.size w5 (w5.alloc (.cells #[.slice (some ⟨g4, 0, none⟩) 2 2, .slice Ae ne ce, .slice (some ⟨w.heap.size, 4, none⟩) 32 32, .slice (some ⟨w.heap.size, 36, none⟩) 32 32] 22)) := (Below.refl _ _).alloc (Nat.le_refl _) _
    have hX5 := HX5.out
    rw [← HX.out] at hX5
    have hne8 : ne = 8 := by rw [← HRE.out.len]; exact Sh.Sha.be8_length z
    have hp6 := parts_four w5 22 (some ⟨g4, 0, none⟩) Ae (some ⟨w.heap.size, 4, none⟩) (some ⟨w.heap.size, 36, none⟩) 2 ne 32 32 2 ce 32 32 [1, hb8] (Sh.Sha.be8 z) l r (reads_of_rd HRD5.out (Nat.le_refl _)) (reads_of_rd HRE.out (Nat.le_refl _))
      (reads_of_rd (abox_l hX5 HL.out.1) (Nat.le_refl _)) (reads_of_rd (abox_r hX5 HL.out.1 HL.out.2) (Nat.le_refl _)) (Nat.le_refl _) hnce (Nat.le_refl _) (Nat.le_refl _) (by omega) (by omega) (by omega) (by omega)
    have HB6 := Lib.hid (HB5.out.trans (hb6.mono HB5.out.size))
    have hsz6 : (w5.alloc (.cells #[.slice (some ⟨g4, 0, none⟩) 2 2, .slice Ae ne ce, .slice (some ⟨w.heap.size, 4, none⟩) 32 32, .slice (some ⟨w.heap.size, 36, none⟩) 32 32] 22)).heap.size = w5.heap.size + 1 := size_alloc _ _
    have hsum := Sh.sum_any _ 4 4 _ _ hp6 (by omega) (Sh.tab_below HT.out HB6.out hw) (by omega)
    have htxt : [[1, hb8], Sh.Sha.be8 z, l, r].flatten = innerText hb8 z l r := by
      rw [innerText]; simp
    rw [htxt] at hsum
    have HSUM := Lib.hid hsum
    have hg6 : w.heap.size + 1 < (w5.alloc (.cells #[.slice (some ⟨g4, 0, none⟩) 2 2, .slice Ae ne ce, .slice (some ⟨w.heap.size, 4, none⟩) 32 32, .slice (some ⟨w.heap.size, 36, none⟩) 32 32] 22)).heap.size := by omega
    have HR6 := Lib.hid (HR5.out.below hb6 (by omega))
    generalize hw6 : w5.alloc (.cells #[.slice (some ⟨g4, 0, none⟩) 2 2, .slice Ae ne ce, .slice (some ⟨w.heap.size, 4, none⟩) 32 32, .slice (some ⟨w.heap.size, 36, none⟩) 32 32] 22) = w6 at *
    have d6 : w6.cell? ⟨w.heap.size, 2, none⟩ = some (.int .i64 h) ∧ w6.cell? ⟨w.heap.size, 3, none⟩ = some (.int .u64 z.toNat) := by
      rw [hb6.cell (p := ⟨w.heap.size, 2, none⟩) (by show w.heap.size < _; omega), hb6.cell (p := ⟨w.heap.size, 3, none⟩) (by show w.heap.size < _; omega)]; exact d5
    refine hK.out _ _ d6 (fun _ => ?_)
    clear hK K hp6 hb6 hsum htxt HRD5 d5 HX5 HR5 HB5 hsz6 hX5 hw6 HRE hne8
    refine wpAnyH_ready (rs := [12]) (by kernel_rfl) (by simp) ?_
    refine AllReadyH.cons rfl (fun K hK => ?_) AllReadyH.nil
    go_simp
    refine HSUM.out.mono ?_
    rintro e w7 ⟨rfl, hb7⟩
    have d7 : w7.cell? ⟨w.heap.size, 2, none⟩ = some (.int .i64 h) ∧ w7.cell? ⟨w.heap.size, 3, none⟩ = some (.int .u64 z.toNat) := by
      rw [hb7.cell (p := ⟨w.heap.size, 2, none⟩) (by show w.heap.size < _; omega), hb7.cell (p := ⟨w.heap.size, 3, none⟩) (by show w.heap.size < _; omega)]; exact d6
    have HR7 := Lib.hid (HR6.out.below hb7 (by omega))
    have HB7 := Lib.hid (HB6.out.trans (hb7.mono HB6.out.size))
    clear hb7 HSUM HR6 HB6 d6
    obtain ⟨Y, hY⟩ : ∃ Y, Sh.bcells (Sh.Sha.sum (innerText hb8 z l r)) = Y := ⟨_, rfl⟩
    have hsizeY : Y.size = 32 := by rw [← hY, Sh.bcells_size, Sh.sum_length]
    have honeY : Y.all (·.oneCell') = true := by rw [← hY]; exact Sh.bcells_one _
    rw [hY]
    have HY := Lib.hid hY
    clear hY
    refine hK.out _ _ d7 (fun _ => ?_)
    clear hK K
    refine wpAnyH_ready (rs := [13]) (by kernel_rfl) (by simp) ?_
    refine AllReadyH.cons rfl (fun K hK => ?_) AllReadyH.nil
    refine Eq.mpr (if_pos (by rfl)) ?_
    refine wp_store_mid 44 (.tmp 2) (.tmp 33) rfl (w.heap.size + 1) 0 Y rfl rfl ?_ ?_ honeY ?_
    · rw [hsizeY]; have := HR7.out.there_; rw [zb_size] at this; exact this
    · rw [hsizeY]; exact info49
    have hw8 := HR7.out.setAll (vs := Y) (by rw [zb_size, hsizeY])
    have hb8' := below_setCells w (w.heap.size + 1) Y.toList 0 HB7.out (by omega)
    have hbs := below_setCells (B := w.heap.size + 1) w7 (w.heap.size + 1) Y.toList 0 (Below.refl _ _) (Nat.le_refl _)
    generalize w7.setCells (w.heap.size + 1) 0 Y.toList = w8 at *
    have d8 : w8.cell? ⟨w.heap.size, 2, none⟩ = some (.int .i64 h) ∧ w8.cell? ⟨w.heap.size, 3, none⟩ = some (.int .u64 z.toNat) := by
      rw [hbs.cell (p := ⟨w.heap.size, 2, none⟩) (by show w.heap.size < _; omega), hbs.cell (p := ⟨w.heap.size, 3, none⟩) (by show w.heap.size < _; omega)]; exact d7
    refine hK.out _ _ d8 (fun _ => ?_)
    clear hK K d7 d8 HR7 HB7 hbs
    have HW8 := Lib.hid hw8
    have HB8 := Lib.hid hb8'
    clear hw8 hb8'
    refine wpAnyH_done (by kernel_rfl) ?_ _
    go_wp2_with fail
    refine bodyPost_ret (results_cell1 Tryd.results39 _ _ _ ⟨w.heap.size + 1, 0, none⟩ _ rfl (load_whole HW8.out 44 _ Tryd.underlying44 rfl (by rw [hsizeY]; exact info49))) rfl ⟨by rw [HY.out], HB8.out⟩
  · go_simp
    refine (sizeBytes_any z w1.drew).mono ?_
    rintro e w4 ⟨Ae, ne, ce, rfl, hre, hnce, hb4⟩
    replace hb4 : Below w1.heap.size w1 w4 := (Below.refl _ _).drew.trans hb4
    have hg4 : w1.heap.size ≤ w4.heap.size := hb4.size
    have d4 : w4.cell? ⟨w.heap.size, 2, none⟩ = some (.int .i64 h) ∧ w4.cell? ⟨w.heap.size, 3, none⟩ = some (.int .u64 z.toNat) := by
      rw [hb4.cell (p := ⟨w.heap.size, 2, none⟩) (by show w.heap.size < _; omega), hb4.cell (p := ⟨w.heap.size, 3, none⟩) (by show w.heap.size < _; omega)]; exact d1
    refine hK.out _ _ d4 (fun _ => ?_)
    have HX4 := Lib.hid (HW1.out.below hb4 (by omega))
    have HR4 := Lib.hid (HW2.out.below hb4 hs)
    have HB4 := Lib.hid (HB.out.trans (hb4.mono HB.out.size))
    have HRE4 := Lib.hid hre
    clear hK K d1 HW1 HW2 HB hb4 hre
    refine wpAnyH_ready (rs := [3]) (by kernel_rfl) (by simp) ?_
    refine AllReadyH.cons rfl (fun K hK => ?_) AllReadyH.nil
    go_simp
    have hb5 : Below w4.heap.size w4 (w4.alloc (.cells #[.int .u8 1, .int .u8 (IntKind.u8.wrap h)] 5)) := (Below.refl _ _).alloc (Nat.le_refl _) _
    have hr5 : Rd (w4.alloc (.cells #[.int .u8 1, .int .u8 (IntKind.u8.wrap h)] 5)) (w4.heap.size + 1) (some ⟨w4.heap.size, 0, none⟩) 2 [1, hb8] := rd_new w4 5 [1, hb8] 2 rfl _ (by rw [HBY.out]; rfl)
    have hg5 : w4.heap.size + 1 ≤ (w4.alloc (.cells #[.int .u8 1, .int .u8 (IntKind.u8.wrap h)] 5)).heap.size := Nat.le_of_eq (size_alloc _ _).symm
    generalize w4.alloc (.cells #[.int .u8 1, .int .u8 (IntKind.u8.wrap h)] 5) = w5 at *
    have hs5 : w.heap.size + 1 < w5.heap.size := by have := hb5.size; omega
    have d5 : w5.cell? ⟨w.heap.size, 2, none⟩ = some (.int .i64 h) ∧ w5.cell? ⟨w.heap.size, 3, none⟩ = some (.int .u64 z.toNat) := by
      rw [hb5.cell (p := ⟨w.heap.size, 2, none⟩) (by show w.heap.size < _; omega), hb5.cell (p := ⟨w.heap.size, 3, none⟩) (by show w.heap.size < _; omega)]; exact d4
    refine hK.out _ _ d5 (fun _ => ?_)
    have HX5 := Lib.hid (HX4.out.below hb5 (by omega))
    have HR5 := Lib.hid (HR4.out.below hb5 (by omega))
    have HB5 := Lib.hid (HB4.out.trans (hb5.mono HB4.out.size))
    have HRD5 := Lib.hid (hr5.more hg5)
    have HRE := Lib.hid ((HRE4.out.below hb5 (Nat.le_refl _)).more hb5.size)
    clear hK K d4 HX4 HR4 HB4 HRE4 hr5 hb5 hg5
    generalize w4.heap.size = g4 at *
    refine wpAnyH_ready (rs := [11]) (by kernel_rfl) (by simp) ?_
    refine AllReadyH.cons rfl (fun K hK => ?_) AllReadyH.nil
    go_simp
    have hb6 : Below w5.heap.size w5 (w5.alloc (.cells #[.slice (some ⟨g4, 0, none⟩) 2 2, .slice Ae ne ce, .slice (some ⟨w.heap.size, 4, none⟩) 32 32, .slice (some ⟨w.heap.size, 36, none⟩) 32 32] 22)) := (Below.refl _ _).alloc (Nat.le_refl _) _
    have hX5 := HX5.out
    rw [← HX.out] at hX5
    have hne8 : ne = 8 := by rw [← HRE.out.len]; exact Sh.Sha.be8_length z
    have hp6 := parts_four w5 22 (some ⟨g4, 0, none⟩) Ae (some ⟨w.heap.size, 4, none⟩) (some ⟨w.heap.size, 36, none⟩) 2 ne 32 32 2 ce 32 32 [1, hb8] (Sh.Sha.be8 z) l r (reads_of_rd HRD5.out (Nat.le_refl _)) (reads_of_rd HRE.out (Nat.le_refl _))
      (reads_of_rd (abox_l hX5 HL.out.1) (Nat.le_refl _)) (reads_of_rd (abox_r hX5 HL.out.1 HL.out.2) (Nat.le_refl _)) (Nat.le_refl _) hnce (Nat.le_refl _) (Nat.le_refl _) (by omega) (by omega) (by omega) (by omega)
    have HB6 := Lib.hid (HB5.out.trans (hb6.mono HB5.out.size))
    have hsz6 : (w5.alloc (.cells #[.slice (some ⟨g4, 0, none⟩) 2 2, .slice Ae ne ce, .slice (some ⟨w.heap.size, 4, none⟩) 32 32, .slice (some ⟨w.heap.size, 36, none⟩) 32 32] 22)).heap.size = w5.heap.size + 1 := size_alloc _ _
    have hsum := Sh.sum_any _ 4 4 _ _ hp6 (by omega) (Sh.tab_below HT.out HB6.out hw) (by omega)
    have htxt : [[1, hb8], Sh.Sha.be8 z, l, r].flatten = innerText hb8 z l r := by
      rw [innerText]; simp
    rw [htxt] at hsum
    have HSUM := Lib.hid hsum
    have hg6 : w.heap.size + 1 < (w5.alloc (.cells #[.slice (some ⟨g4, 0, none⟩) 2 2, .slice Ae ne ce, .slice (some ⟨w.heap.size, 4, none⟩) 32 32, .slice (some ⟨w.heap.size, 36, none⟩) 32 32] 22)).heap.size := by omega
    have HR6 := Lib.hid (HR5.out.below hb6 (by omega))
    generalize hw6 : w5.alloc (.cells #[.slice (some ⟨g4, 0, none⟩) 2 2, .slice Ae ne ce, .slice (some ⟨w.heap.size, 4, none⟩) 32 32, .slice (some ⟨w.heap.size, 36, none⟩) 32 32] 22) = w6 at *
    have d6 : w6.cell? ⟨w.heap.size, 2, none⟩ = some (.int .i64 h) ∧ w6.cell? ⟨w.heap.size, 3, none⟩ = some (.int .u64 z.toNat) := by
      rw [hb6.cell (p := ⟨w.heap.size, 2, none⟩) (by show w.heap.size < _; omega), hb6.cell (p := ⟨w.heap.size, 3, none⟩) (by show w.heap.size < _; omega)]; exact d5
    refine hK.out _ _ d6 (fun _ => ?_)
    clear hK K hp6 hb6 hsum htxt HRD5 d5 HX5 HR5 HB5 hsz6 hX5 hw6 HRE hne8
    refine wpAnyH_ready (rs := [12]) (by kernel_rfl) (by simp) ?_
    refine AllReadyH.cons rfl (fun K hK => ?_) AllReadyH.nil
    go_simp
    refine HSUM.out.mono ?_
    rintro e w7 ⟨rfl, hb7⟩
    have d7 : w7.cell? ⟨w.heap.size, 2, none⟩ = some (.int .i64 h) ∧ w7.cell? ⟨w.heap.size, 3, none⟩ = some (.int .u64 z.toNat) := by
      rw [hb7.cell (p := ⟨w.heap.size, 2, none⟩) (by show w.heap.size < _; omega), hb7.cell (p := ⟨w.heap.size, 3, none⟩) (by show w.heap.size < _; omega)]; exact d6
    have HR7 := Lib.hid (HR6.out.below hb7 (by omega))
    have HB7 := Lib.hid (HB6.out.trans (hb7.mono HB6.out.size))
    clear hb7 HSUM HR6 HB6 d6
    obtain ⟨Y, hY⟩ : ∃ Y, Sh.bcells (Sh.Sha.sum (innerText hb8 z l r)) = Y := ⟨_, rfl⟩
    have hsizeY : Y.size = 32 := by rw [← hY, Sh.bcells_size, Sh.sum_length]
    have honeY : Y.all (·.oneCell') = true := by rw [← hY]; exact Sh.bcells_one _
    rw [hY]
    have HY := Lib.hid hY
    clear hY
    refine hK.out _ _ d7 (fun _ => ?_)
    clear hK K
    refine wpAnyH_ready (rs := [13]) (by kernel_rfl) (by simp) ?_
    refine AllReadyH.cons rfl (fun K hK => ?_) AllReadyH.nil
    refine Eq.mpr (if_pos (by rfl)) ?_
    refine wp_store_mid 44 (.tmp 2) (.tmp 33) rfl (w.heap.size + 1) 0 Y rfl rfl ?_ ?_ honeY ?_
    · rw [hsizeY]; have := HR7.out.there_; rw [zb_size] at this; exact this
    · rw [hsizeY]; exact info49
    have hw8 := HR7.out.setAll (vs := Y) (by rw [zb_size, hsizeY])
    have hb8' := below_setCells w (w.heap.size + 1) Y.toList 0 HB7.out (by omega)
    have hbs := below_setCells (B := w.heap.size + 1) w7 (w.heap.size + 1) Y.toList 0 (Below.refl _ _) (Nat.le_refl _)
    generalize w7.setCells (w.heap.size + 1) 0 Y.toList = w8 at *
    have d8 : w8.cell? ⟨w.heap.size, 2, none⟩ = some (.int .i64 h) ∧ w8.cell? ⟨w.heap.size, 3, none⟩ = some (.int .u64 z.toNat) := by
      rw [hbs.cell (p := ⟨w.heap.size, 2, none⟩) (by show w.heap.size < _; omega), hbs.cell (p := ⟨w.heap.size, 3, none⟩) (by show w.heap.size < _; omega)]; exact d7
    refine hK.out _ _ d8 (fun _ => ?_)
    clear hK K d7 d8 HR7 HB7 hbs
    have HW8 := Lib.hid hw8
    have HB8 := Lib.hid hb8'
    clear hw8 hb8'
    refine wpAnyH_done (by kernel_rfl) ?_ _
    go_wp2_with fail
    refine bodyPost_ret (results_cell1 Tryd.results39 _ _ _ ⟨w.heap.size + 1, 0, none⟩ _ rfl (load_whole HW8.out 44 _ Tryd.underlying44 rfl (by rw [hsizeY]; exact info49))) rfl ⟨by rw [HY.out], HB8.out⟩
end Go.Proofs.YtehmkkccnadhoaaDoor
namespace Go.Proofs.YtehmkkccnadhoaaDoor
open Go.RowKit
open Tr
variable {G : Nat → Prop}

/-- A node that is answered; nothing that was there has changed. -/
def NodePost (G : Nat → Prop) (t : T) (w : World) (e : Ending) (w' : World) : Prop := ∃ b, e = .returned (ptr (some b)) ∧ NIn G w' w'.heap.size t b ∧ Below w.heap.size w w'

set_option maxRecDepth 100000 in
theorem empty_any (w : World) (ht : Sh.Tab w 2) (hw : 2 < w.heap.size) : Calls Tryd.prog 14 #[] w fun e w' => e = .returned (.agg (Sh.bcells (Sh.Sha.sum []))) ∧ Below w.heap.size w w' := by
  have hz49 := zero49
  have hb1 : Below w.heap.size w (w.alloc (.cells (zb 32) 44)) := (Below.refl _ _).alloc (Nat.le_refl _) _
  have hsz : (w.alloc (.cells (zb 32) 44)).heap.size = w.heap.size + 1 := size_alloc _ _
  have HSUM := Lib.hid (Sh.sum_any none 0 0 [] (w.alloc (.cells (zb 32) 44)) ⟨rfl, fun h => absurd h (by omega)⟩ (by omega) (Sh.tab_below ht hb1 hw) (by omega))
  have HW := Lib.hid (Whole.made w 44 (zb 32))
  clear ht
  go_enter Tryd.func14, Tryd.ntmps14
  go_wp2_with fail
  refine HSUM.out.mono ?_
  rintro e w2 ⟨rfl, hb2⟩
  have HB := Lib.hid (hb1.trans (hb2.mono hb1.size))
  have HW2 := Lib.hid (HW.out.below hb2 (by omega))
  clear hb1 hb2 hsz HSUM HW hz49
  obtain ⟨Y, hY⟩ : ∃ Y, Sh.bcells (Sh.Sha.sum []) = Y := ⟨_, rfl⟩
  have hsizeY : Y.size = 32 := by rw [← hY, Sh.bcells_size, Sh.sum_length]
  have honeY : Y.all (·.oneCell') = true := by rw [← hY]; exact Sh.bcells_one _
  rw [show ([] : List (List UInt8)).flatten = [] from rfl, hY]
  have HY := Lib.hid hY
  clear hY
  simp only []
  go_step
  refine wpList_store_mid rfl 44 (.tmp 0) (.tmp 1) rfl w.heap.size 0 Y rfl rfl ?_ ?_ honeY ?_
  · rw [hsizeY]; have := HW2.out.there_; rw [zb_size] at this; exact this
  · rw [hsizeY]; exact info49
  have HW8 := Lib.hid (HW2.out.setAll (vs := Y) (by rw [zb_size, hsizeY]))
  have HB8 := Lib.hid (below_setCells w w.heap.size Y.toList 0 HB.out (by omega))
  generalize w2.setCells w.heap.size 0 Y.toList = w8 at *
  go_wp2_with fail
  refine bodyPost_ret (results_cell1 Tryd.results14 _ _ _ ⟨w.heap.size, 0, none⟩ _ rfl (load_whole HW8.out 44 _ Tryd.underlying44 rfl (by rw [hsizeY]; exact info49))) rfl ⟨by rw [HY.out], HB8.out⟩

def z64 : Array Value := (acells (.slice none 0 0) (.slice none 0 0) 0 0 z32 z32).toArray
def z88 : Array Value := (ncells (.slice none 0 0) (.slice none 0 0) 0 0 z32 z32 z32 (ptr none) (ptr none)).toArray
theorem zero64 : ∀ w, (zeroValue 67).run Tryd.prog w = .ok (.agg z64) w := (zero_of_info (P := Tryd.prog) (t := 67) (v := .agg z64) (n := 68) (by kernel_rfl)).1
theorem zero88 : ∀ w, (zeroValue 69).run Tryd.prog w = .ok (.agg z88) w := (zero_of_info (P := Tryd.prog) (t := 69) (v := .agg z88) (n := 102) (by kernel_rfl)).1

section
variable {w : World} {g : Nat} {t : TypeId} {kv vv x y : Value} {h : Int} {z : Nat} {l r s s' : List UInt8}
theorem ncells_arange (hw : Whole w g t (ncells kv vv h z l r s x y).toArray) : w.rangeAt g 0 (acells kv vv h z l r) := fun j v hv =>
  hw.at_ (by
    have hj := (List.getElem?_eq_some_iff.1 hv).1
    rw [Nat.zero_add, List.getElem?_toArray, ncells, List.getElem?_append_left hj, hv])
theorem ncells_store (hw : Whole w g t (ncells kv vv h z l r s x y).toArray) (hl : l.length = 32) (hr : r.length = 32) (hs : s.length = 32) (hs' : s'.length = 32) : Whole (w.setCells g 68 (s'.map V8)) g t (ncells kv vv h z l r s' x y).toArray := by
  have := Whole.setCells (s'.map V8) (acells kv vv h z l r) (s.map V8) [x, y] hw (by simp [hs, hs'])
  rwa [acells_len _ _ _ _ _ _ hl hr] at this
end

set_option maxRecDepth 100000 in
set_option maxHeartbeats 1000000 in
theorem leaf_any (A : Option Addr) (n c : Nat) (A' : Option Addr) (n' c' : Nat) (k v : List UInt8) (w : World) (hk : Rd w w.heap.size A n k) (hv : Rd w w.heap.size A' n' v) (hn : n ≤ 96) (hn' : n' ≤ 256)
    (ht : Sh.Tab w 2) (hw : Room G w) : Calls Tryd.prog 19 #[.slice A n c, .slice A' n' c'] w (NodePost G (.leaf k v) w) := by
  have hw1 := hw.1
  have HG := Lib.hid hw
  clear hw
  have hz64 := zero64
  have hz88 := zero88
  have HK := Lib.hid hk
  have HV := Lib.hid hv
  have HT := Lib.hid ht
  clear hk hv ht
  go_enter Tryd.func19, Tryd.ntmps19
  go_wp2_with fail
  refine (clone_new A n c k w HK.out (by omega)).mono ?_
  rintro e w1 ⟨A1, n1, c1, rfl, hr1, hnc1, hg1, hb1⟩
  have HG1 := Lib.hid hg1
  clear hg1
  have HR1 := Lib.hid hr1
  have HB1 := Lib.hid hb1
  clear hr1 hb1
  go_wp2_with fail
  refine (clone_new A' n' c' v w1 ((HV.out.below HB1.out (Nat.le_refl _)).more HB1.out.size) (by omega)).mono ?_
  rintro e w2 ⟨A2, n2, c2, rfl, hr2, hnc2, hg2, hb2⟩
  have HG2 := Lib.hid hg2
  clear hg2
  have HR2 := Lib.hid hr2
  have HB2 := Lib.hid hb2
  clear hr2 hb2
  go_upto_region 2 with (fail)
  have e88 : Array.foldl (fun cs x => cs.setIfInBounds x.snd x.fst) z88 (((z64.setIfInBounds 0 (Value.slice A1 n1 c1)).setIfInBounds 1 (Value.slice A2 n2 c2)).setIfInBounds 3 (Value.int IntKind.u64 1)).zipIdx 0 z64.size
      = (ncells (.slice A1 n1 c1) (.slice A2 n2 c2) 0 1 z32 z32 z32 (ptr none) (ptr none)).toArray := by kernel_rfl
  rw [e88]
  clear hz64 hz88 e88
  clear h
  have hw3 := Whole.made w2 69 (ncells (.slice A1 n1 c1) (.slice A2 n2 c2) 0 1 z32 z32 z32 (ptr none) (ptr none)).toArray
  have hb3 : Below w2.heap.size w2 (w2.alloc (.cells (ncells (.slice A1 n1 c1) (.slice A2 n2 c2) 0 1 z32 z32 z32 (ptr none) (ptr none)).toArray 69)) := (Below.refl _ _).alloc (Nat.le_refl _) _
  generalize hX : (ncells (.slice A1 n1 c1) (.slice A2 n2 c2) 0 1 z32 z32 z32 (ptr none) (ptr none)).toArray = X at *
  generalize w2.alloc (.cells X 69) = w3 at *
  subst hX
  have hb : Below w.heap.size w w3 := (HB1.out.trans (HB2.out.mono HB1.out.size)).trans (hb3.mono (Nat.le_trans HB1.out.size HB2.out.size))
  have hg1 : Rd w3 w2.heap.size A1 n1 k := ((HR1.out.below HB2.out (Nat.le_refl _)).more HB2.out.size).below hb3 (Nat.le_refl _)
  have hg2 : Rd w3 w2.heap.size A2 n2 v := HR2.out.below hb3 (Nat.le_refl _)
  have hr1 : Rd w3 w3.heap.size A1 n1 k := hg1.more hb3.size
  have hr2 : Rd w3 w3.heap.size A2 n2 v := hg2.more hb3.size
  have hn1 : n1 ≤ 96 := by have h1 := hr1.len; have h2 := HK.out.len; omega
  have hn2 : n2 ≤ 256 := by have h1 := hr2.len; have h2 := HV.out.len; omega
  have hs3 := Nat.le_trans HB1.out.size HB2.out.size
  have HH := Lib.hid (hash_leaf A1 n1 c1 A2 n2 c2 1 z32 z32 k v w3 hr1 hr2 hnc1 hnc2 (by omega) (by omega) (Sh.tab_below HT.out hb hw1) (by have := hb.size; omega))
  have HR1' := Lib.hid hg1
  have HR2' := Lib.hid hg2
  have HB := Lib.hid hb
  have HW3 := Lib.hid hw3
  have HGD : Hid (G w2.heap.size ∧ (0 < n1 → ∀ b' o, A1 = some ⟨b', o, none⟩ → G b') ∧ (0 < n2 → ∀ b' o, A2 = some ⟨b', o, none⟩ → G b')) := Lib.hid ⟨HG.out.2 _ hs3, fun _ b o e => HG.out.2 _ (HG1.out b o e).1, fun _ b o e => HG.out.2 _ (Nat.le_trans HB1.out.size (HG2.out b o e).1)⟩
  clear hw3 hb3 hb hr1 hr2 hg1 hg2 HR1 HR2 HB1 HB2 HK HV HT HG HG1 HG2
  generalize w2.heap.size = g at *
  refine wp_region_lit ?_
  iterate 12 go_step
  refine wpList_load_mid rfl 67 (.tmp 16) rfl g 0 rfl _ _ (ncells_arange HW3.out) Tryd.underlying67 rfl (by rw [acells_len _ _ _ _ _ _ rfl rfl]; exact info64) ?_
  go_wp2_with fail
  refine HH.out.mono ?_
  rintro e w4 ⟨rfl, hb4⟩
  have hw4 := HW3.out.below hb4 HW3.out.lt
  have HB4 := Lib.hid (HB.out.trans (hb4.mono HB.out.size))
  have HR14 := Lib.hid (HR1'.out.below hb4 (Nat.le_of_lt HW3.out.lt))
  have HR24 := Lib.hid (HR2'.out.below hb4 (Nat.le_of_lt HW3.out.lt))
  have HW4 := Lib.hid hw4
  clear hw4 hb4 HH HB HW3 HR1' HR2'
  obtain ⟨S, hS⟩ : ∃ S, Sh.Sha.sum (leafText k v) = S := ⟨_, rfl⟩
  have hS32 : S.length = 32 := by rw [← hS]; exact Sh.sum_length _
  have hsizeY : (Sh.bcells S).size = 32 := (Sh.bcells_size S).trans hS32
  rw [hS]
  have HS := Lib.hid hS
  clear hS
  simp only []
  iterate 7 go_step
  refine wpList_store_mid rfl 44 (.tmp 20) (.tmp 18) rfl g 68 (Sh.bcells S) rfl rfl ?_ ?_ (Sh.bcells_one S) ?_
  · rw [hsizeY]; exact HW4.out.midthere 68 32 (by rw [List.size_toArray, ncells_len _ _ _ _ _ _ _ _ _ rfl rfl rfl]; omega)
  · rw [hsizeY]; exact info49
  have hw5 := ncells_store HW4.out rfl rfl rfl hS32
  have hb5 := below_setCells w g (S.map V8) 68 HB4.out hs3
  have hs5 := size_setCells g (S.map V8) 68 w4
  have hbz : Below g w4 (w4.setCells g 68 (S.map V8)) := below_setCells w4 g (S.map V8) 68 (Below.refl _ _) (Nat.le_refl _)
  have HW5 := Lib.hid hw5
  have HB5 := Lib.hid hb5
  have HR15 := Lib.hid (HR14.out.below hbz (Nat.le_refl _))
  have HR25 := Lib.hid (HR24.out.below hbz (Nat.le_refl _))
  clear hw5 hb5 hs5 hbz HW4 HB4 HR14 HR24
  show wpList _ _ _ _ _ (w4.setCells g 68 (S.map V8))
  generalize w4.setCells g 68 (S.map V8) = w5 at *
  go_wp2_with fail
  go_ret
  have hlt := HW5.out.lt
  have hle := Nat.le_of_lt hlt
  refine ⟨g, rfl, ⟨A1, n1, c1, A2, n2, c2, ⟨hlt, ?_, HR15.out.more hle, hnc1, hn1, HR25.out.more hle, hnc2, hn2, HGD.out⟩⟩, HB5.out⟩
  rw [← HS.out] at HW5
  exact HW5.out
end Go.Proofs.YtehmkkccnadhoaaDoor
namespace Go.Proofs.YtehmkkccnadhoaaDoor
open Go.RowKit
open Tr
variable {G : Nat → Prop}

section
variable {w : World} {g : Nat} {t : TypeId} {kv vv x y : Value} {h : Int} {z : Nat} {l r s : List UInt8}
theorem ncells_srange (hw : Whole w g t (ncells kv vv h z l r s x y).toArray) (hl : l.length = 32) (hr : r.length = 32) : w.rangeAt g 68 (s.map V8) := fun j v hv =>
  hw.at_ (by
    have hj := (List.getElem?_eq_some_iff.1 hv).1
    rw [List.getElem?_toArray, ncells, List.getElem?_append_right (by rw [acells_len _ _ _ _ _ _ hl hr]; omega), acells_len _ _ _ _ _ _ hl hr, Nat.add_sub_cancel_left, List.getElem?_append_left hj, hv])
theorem ncells_lstore {l' : List UInt8} (hw : Whole w g t (ncells kv vv h z l r s x y).toArray) (hl : l.length = 32) (hl' : l'.length = 32) : Whole (w.setCells g 4 (l'.map V8)) g t (ncells kv vv h z l' r s x y).toArray := by
  have e : ∀ l : List UInt8, ncells kv vv h z l r s x y = [kv, vv, .int .i64 h, .int .u64 z] ++ (l.map V8 ++ (r.map V8 ++ (s.map V8 ++ [x, y]))) := fun l => by simp [ncells, acells]
  rw [e] at hw ⊢
  exact Whole.setCells (l'.map V8) [kv, vv, .int .i64 h, .int .u64 z] (l.map V8) _ hw (by simp [hl, hl'])
theorem ncells_rstore {r' : List UInt8} (hw : Whole w g t (ncells kv vv h z l r s x y).toArray) (hl : l.length = 32) (hr : r.length = 32) (hr' : r'.length = 32) : Whole (w.setCells g 36 (r'.map V8)) g t (ncells kv vv h z l r' s x y).toArray := by
  have e : ∀ r : List UInt8, ncells kv vv h z l r s x y = ([kv, vv, .int .i64 h, .int .u64 z] ++ l.map V8) ++ (r.map V8 ++ (s.map V8 ++ [x, y])) := fun r => by simp [ncells, acells]
  rw [e] at hw ⊢
  have := Whole.setCells (r'.map V8) ([kv, vv, .int .i64 h, .int .u64 z] ++ l.map V8) (r.map V8) _ hw (by simp [hr, hr'])
  rwa [show ([kv, vv, .int .i64 h, .int .u64 z] ++ l.map V8).length = 36 by simp [hl]] at this
end
theorem wp_store_none {op : Oper} {a : Act} {w : World} {K : Act → World → Prop} {Q : Exit → Act → World → Prop} (hd : op.dst = none) (ty : TypeId) (x y : Operand) (ho : op.op = .store ty x y)
    (b o : Nat) (cells : Array Value) (hx : a.eval x = .pointer (some ⟨b, o, none⟩)) (hy : a.eval y = .agg cells)
    (ht : w.there b o cells.size) (hi : (Tryd.prog.info? ty).map (·.size) = some cells.size) (h1 : cells.all (·.oneCell') = true)
    (h : K a (w.setCells b o cells.toList)) : op.wp Tryd.prog a w K Q :=
  wp_store_mid ty x y ho b o cells hx hy ht hi h1 (by rw [hd]; exact h)
theorem sumsize (t : T) : (t.sum.map V8).toArray.size = 32 := by rw [List.size_toArray, List.length_map, sum32]
/-- What is read of a node when one is made above it. -/
theorem above_reads {w w' : World} {t : T} {b : Nat} (h : NIn G w w.heap.size t b) (hb : Below w.heap.size w w') :
    w'.cell? ⟨b, 2, none⟩ = some (.int .i64 t.h) ∧ w'.cell? ⟨b, 3, none⟩ = some (.int .u64 t.n) ∧ w'.rangeAt b 68 (t.sum.map V8) := by
  obtain ⟨A, n, c, A', n', c', x, y, hh⟩ := (h.below hb (Nat.le_refl _)).has
  obtain ⟨_, _, c2, c3, _, _⟩ := hh.cells
  exact ⟨c2, c3, ncells_srange hh.whole (lsum32 t) (rsum32 t)⟩
theorem i64_node (l r : T) (hn : l.n + r.n ≤ 4294967296) : IntKind.i64.wrap (1 + if l.h < r.h then (r.h : Int) else (l.h : Int)) = ((T.node l r).h : Int) := by
  have h1 := T.h_lt l
  have h2 := T.h_lt r
  rw [IntWalk.i64_in _ (by split <;> omega)]
  show _ = ((1 + max l.h r.h : Nat) : Int)
  split <;> omega
theorem u64_node (l r : T) (hn : l.n + r.n ≤ 4294967296) : IntKind.u64.wrap ((l.n : Int) + (r.n : Int)) = ((T.node l r).n : Int) := by
  rw [IntWalk.u64_in _ (by omega)]
  show _ = ((l.n + r.n : Nat) : Int)
  omega

set_option maxRecDepth 100000 in
set_option maxHeartbeats 1000000 in
theorem above_any (l r : T) (bl br : Nat) (w : World) (hl : NIn G w w.heap.size l bl) (hr : NIn G w w.heap.size r br) (hn : l.n + r.n ≤ 4294967296) (ht : Sh.Tab w 2) (hw : Room G w) :
    Calls Tryd.prog 62 #[ptr (some bl), ptr (some br)] w (NodePost G (.node l r) w) := by
  have hw1 := hw.1
  have HG := Lib.hid hw
  clear hw
  have hz88 := zero88
  have HL := Lib.hid hl
  have HR := Lib.hid hr
  have HT := Lib.hid ht
  have hll := hl.lt
  have hrl := hr.lt
  clear hl hr ht
  rw [ptr_some, ptr_some]
  go_enter Tryd.func62, Tryd.ntmps62
  go_upto_region 2 with (fail)
  have e88 : (z88.setIfInBounds 100 (Value.pointer (some ⟨bl, 0, none⟩))).setIfInBounds 101 (Value.pointer (some ⟨br, 0, none⟩))
      = (ncells (.slice none 0 0) (.slice none 0 0) 0 0 z32 z32 z32 (ptr (some bl)) (ptr (some br))).toArray := by kernel_rfl
  rw [e88]
  clear hz88 e88
  have hw3 := Whole.made w 69 (ncells (.slice none 0 0) (.slice none 0 0) 0 0 z32 z32 z32 (ptr (some bl)) (ptr (some br))).toArray
  have hb3 : Below w.heap.size w (w.alloc (.cells (ncells (.slice none 0 0) (.slice none 0 0) 0 0 z32 z32 z32 (ptr (some bl)) (ptr (some br))).toArray 69)) := (Below.refl _ _).alloc (Nat.le_refl _) _
  generalize hX : (ncells (.slice none 0 0) (.slice none 0 0) 0 0 z32 z32 z32 (ptr (some bl)) (ptr (some br))).toArray = X at *
  generalize w.alloc (.cells X 69) = w3 at *
  have HX := Lib.hid hX
  have hs3 : w.heap.size < w3.heap.size := hw3.lt
  have HW3 := Lib.hid hw3
  have HB3 := Lib.hid hb3
  have HLE := Lib.hid (least_any r br w.heap.size w3 (HR.out.below hb3 (Nat.le_refl _)))
  rw [ptr_some] at HLE
  clear hX hw3 hb3
  have f0 := HW3.out.free 0
  have k0 : ∃ u, w3.cell? ⟨w.heap.size, 0, none⟩ = some u := ⟨.slice none 0 0, HW3.out.at_ (by rw [← HX.out]; rfl)⟩
  obtain ⟨u0, k0⟩ := k0
  go_wp2_with fail
  refine HLE.out.mono ?_
  rintro e w3' ⟨A, n, c, rfl, hrd, hnc, hn96, hgA, rfl⟩
  have HGA := Lib.hid hgA
  clear hgA
  have HRD3 := Lib.hid hrd
  clear hrd HLE
  go_upto_region 3 with (fail)
  have hw4 : Whole (w3.setCell ⟨w.heap.size, 0, none⟩ (.slice A n c)) w.heap.size 69 (ncells (.slice A n c) (.slice none 0 0) 0 0 z32 z32 z32 (ptr (some bl)) (ptr (some br))).toArray := by
    have := HW3.out.set 0 (.slice A n c)
    rw [← HX.out] at this
    exact this
  have hb4 : Below w.heap.size w (w3.setCell ⟨w.heap.size, 0, none⟩ (.slice A n c)) := HB3.out.setCell (Nat.le_refl _) _
  have hrd4 : Rd (w3.setCell ⟨w.heap.size, 0, none⟩ (.slice A n c)) w.heap.size A n r.least := HRD3.out.below ((Below.refl w.heap.size w3).setCell (p := ⟨w.heap.size, 0, none⟩) (Nat.le_refl _) _) (Nat.le_refl _)
  generalize w3.setCell ⟨w.heap.size, 0, none⟩ (.slice A n c) = w4 at *
  have HW4 := Lib.hid hw4
  have HB4 := Lib.hid hb4
  have HRD4 := Lib.hid hrd4
  clear hw4 hb4 hrd4 HW3 HB3 HRD3 f0 k0 hs3
  obtain ⟨l2, -, -⟩ := above_reads HL.out HB4.out.drew
  obtain ⟨r2, -, -⟩ := above_reads HR.out HB4.out.drew
  have hmx := i64_node l r hn
  have hS0 : w4.drew.cell? ⟨bl, 2, none⟩ = some (.int .i64 l.h) ∧ w4.drew.cell? ⟨br, 2, none⟩ = some (.int .i64 r.h) := ⟨l2, r2⟩
  refine wp_region_held_drew (S := fun w' => w'.cell? ⟨bl, 2, none⟩ = some (.int .i64 l.h) ∧ w'.cell? ⟨br, 2, none⟩ = some (.int .i64 r.h)) (by kernel_rfl) hS0 (fun hHeld => ?_)
  clear l2 r2
  refine wpAnyH_take (i := 0) (oi := { dst := some 16, op := Op.move (Operand.tmp 5), type := 57, pos := "node.go:27", after := #[], guard := none }) (v := ?_) rfl (by kernel_rfl) (by kernel_rfl) (by kernel_rfl) (fun _ _ _ h => h) (Or.inl ⟨by rfl, ?_⟩) (by assumption) ?_
  rotate_left
  · first | (intro w hSw; (try dsimp only at hSw); go_simp; done) | (intro w hSw; (try dsimp only at hSw); go_simp; with_reducible rfl)
  simp only [Act.put, List.setIfInBounds_toArray, List.set_cons_zero, List.set_cons_succ]
  refine wpAnyH_take (i := 1) (oi := { dst := some 17, op := Op.move (Operand.tmp 0), type := 57, pos := "node.go:27", after := #[], guard := none }) (v := ?_) rfl (by kernel_rfl) (by kernel_rfl) (by kernel_rfl) (fun _ _ _ h => h) (Or.inl ⟨by rfl, ?_⟩) (by assumption) ?_
  rotate_left
  · first | (intro w hSw; (try dsimp only at hSw); go_simp; done) | (intro w hSw; (try dsimp only at hSw); go_simp; with_reducible rfl)
  simp only [Act.put, List.setIfInBounds_toArray, List.set_cons_zero, List.set_cons_succ]
  refine wpAnyH_take (i := 2) (oi := { dst := some 18, op := Op.nilCheck (Operand.tmp 17), type := 0, pos := "node.go:27", after := #[{ on := 1, ground := Ground.data }], guard := none }) (v := ?_) rfl (by kernel_rfl) (by kernel_rfl) (by kernel_rfl) (fun _ _ _ h => h) (Or.inl ⟨by rfl, ?_⟩) (by assumption) ?_
  rotate_left
  · first | (intro w hSw; (try dsimp only at hSw); go_simp; done) | (intro w hSw; (try dsimp only at hSw); go_simp; with_reducible rfl)
  simp only [Act.put, List.setIfInBounds_toArray, List.set_cons_zero, List.set_cons_succ]
  refine wpAnyH_take (i := 3) (oi := { dst := some 19, op := Op.fieldAddr 69 (Operand.tmp 18) 0, type := 0, pos := "node.go:27", after := #[{ on := 2, ground := Ground.data }], guard := none }) (v := ?_) rfl (by kernel_rfl) (by kernel_rfl) (by kernel_rfl) (fun _ _ _ h => h) (Or.inl ⟨by rfl, ?_⟩) (by assumption) ?_
  rotate_left
  · first | (intro w hSw; (try dsimp only at hSw); go_simp; done) | (intro w hSw; (try dsimp only at hSw); go_simp; with_reducible rfl)
  simp only [Act.put, List.setIfInBounds_toArray, List.set_cons_zero, List.set_cons_succ]
  refine wpAnyH_take (i := 4) (oi := { dst := some 20, op := Op.fieldAddr 67 (Operand.tmp 19) 2, type := 0, pos := "node.go:27", after := #[{ on := 3, ground := Ground.data }], guard := none }) (v := ?_) rfl (by kernel_rfl) (by kernel_rfl) (by kernel_rfl) (fun _ _ _ h => h) (Or.inl ⟨by rfl, ?_⟩) (by assumption) ?_
  rotate_left
  · first | (intro w hSw; (try dsimp only at hSw); go_simp; done) | (intro w hSw; (try dsimp only at hSw); go_simp; with_reducible rfl)
  simp only [Act.put, List.setIfInBounds_toArray, List.set_cons_zero, List.set_cons_succ]
  refine wpAnyH_take (i := 5) (oi := { dst := some 21, op := Op.load 3 (Operand.tmp 20), type := 3, pos := "node.go:27", after := #[{ on := 4, ground := Ground.data }], guard := none }) (v := ?_) rfl (by kernel_rfl) (by kernel_rfl) (by kernel_rfl) (fun _ _ _ h => h) (Or.inl ⟨by rfl, ?_⟩) (by assumption) ?_
  rotate_left
  · first | (intro w hSw; (try dsimp only at hSw); go_simp; done) | (intro w hSw; (try dsimp only at hSw); go_simp; with_reducible rfl)
  simp only [Act.put, List.setIfInBounds_toArray, List.set_cons_zero, List.set_cons_succ]
  refine wpAnyH_take (i := 6) (oi := { dst := some 22, op := Op.move (Operand.tmp 1), type := 57, pos := "node.go:27", after := #[], guard := none }) (v := ?_) rfl (by kernel_rfl) (by kernel_rfl) (by kernel_rfl) (fun _ _ _ h => h) (Or.inl ⟨by rfl, ?_⟩) (by assumption) ?_
  rotate_left
  · first | (intro w hSw; (try dsimp only at hSw); go_simp; done) | (intro w hSw; (try dsimp only at hSw); go_simp; with_reducible rfl)
  simp only [Act.put, List.setIfInBounds_toArray, List.set_cons_zero, List.set_cons_succ]
  refine wpAnyH_take (i := 7) (oi := { dst := some 23, op := Op.nilCheck (Operand.tmp 22), type := 0, pos := "node.go:27", after := #[{ on := 6, ground := Ground.data }], guard := none }) (v := ?_) rfl (by kernel_rfl) (by kernel_rfl) (by kernel_rfl) (fun _ _ _ h => h) (Or.inl ⟨by rfl, ?_⟩) (by assumption) ?_
  rotate_left
  · first | (intro w hSw; (try dsimp only at hSw); go_simp; done) | (intro w hSw; (try dsimp only at hSw); go_simp; with_reducible rfl)
  simp only [Act.put, List.setIfInBounds_toArray, List.set_cons_zero, List.set_cons_succ]
  refine wpAnyH_take (i := 8) (oi := { dst := some 24, op := Op.fieldAddr 69 (Operand.tmp 23) 0, type := 0, pos := "node.go:27", after := #[{ on := 7, ground := Ground.data }], guard := none }) (v := ?_) rfl (by kernel_rfl) (by kernel_rfl) (by kernel_rfl) (fun _ _ _ h => h) (Or.inl ⟨by rfl, ?_⟩) (by assumption) ?_
  rotate_left
  · first | (intro w hSw; (try dsimp only at hSw); go_simp; done) | (intro w hSw; (try dsimp only at hSw); go_simp; with_reducible rfl)
  simp only [Act.put, List.setIfInBounds_toArray, List.set_cons_zero, List.set_cons_succ]
  refine wpAnyH_take (i := 9) (oi := { dst := some 25, op := Op.fieldAddr 67 (Operand.tmp 24) 2, type := 0, pos := "node.go:27", after := #[{ on := 8, ground := Ground.data }], guard := none }) (v := ?_) rfl (by kernel_rfl) (by kernel_rfl) (by kernel_rfl) (fun _ _ _ h => h) (Or.inl ⟨by rfl, ?_⟩) (by assumption) ?_
  rotate_left
  · first | (intro w hSw; (try dsimp only at hSw); go_simp; done) | (intro w hSw; (try dsimp only at hSw); go_simp; with_reducible rfl)
  simp only [Act.put, List.setIfInBounds_toArray, List.set_cons_zero, List.set_cons_succ]
  refine wpAnyH_take (i := 10) (oi := { dst := some 26, op := Op.load 3 (Operand.tmp 25), type := 3, pos := "node.go:27", after := #[{ on := 9, ground := Ground.data }], guard := none }) (v := ?_) rfl (by kernel_rfl) (by kernel_rfl) (by kernel_rfl) (fun _ _ _ h => h) (Or.inl ⟨by rfl, ?_⟩) (by assumption) ?_
  rotate_left
  · first | (intro w hSw; (try dsimp only at hSw); go_simp; done) | (intro w hSw; (try dsimp only at hSw); go_simp; with_reducible rfl)
  simp only [Act.put, List.setIfInBounds_toArray, List.set_cons_zero, List.set_cons_succ]
  refine wpAnyH_take (i := 11) (oi := { dst := some 27, op := Op.call { callee := Callee.builtin Builtin.max, args := #[Operand.tmp 21, Operand.tmp 26], argTypes := #[3, 3] }, type := 3, pos := "node.go:27", after := #[{ on := 5, ground := Ground.data }, { on := 10, ground := Ground.data }], guard := none }) (v := ?_) rfl (by kernel_rfl) (by kernel_rfl) (by kernel_rfl) (fun _ _ _ h => h) (Or.inl ⟨by rfl, ?_⟩) (by assumption) ?_
  rotate_left
  · first | (intro w hSw; (try dsimp only at hSw); go_simp; done) | (intro w hSw; (try dsimp only at hSw); go_simp; with_reducible rfl)
  simp only [Act.put, List.setIfInBounds_toArray, List.set_cons_zero, List.set_cons_succ]
  refine wpAnyH_take (i := 12) (oi := { dst := some 28, op := Op.binOp BinOp.add 3 (Operand.const (Value.int IntKind.i64 1)) (Operand.tmp 27) 3, type := 3, pos := "node.go:27", after := #[{ on := 11, ground := Ground.data }], guard := none }) (v := ?_) rfl (by kernel_rfl) (by kernel_rfl) (by kernel_rfl) (fun _ _ _ h => h) (Or.inl ⟨by rfl, ?_⟩) (by assumption) ?_
  rotate_left
  · first | (intro w hSw; (try dsimp only at hSw); go_simp; done) | (intro w hSw; (try dsimp only at hSw); go_simp; with_reducible rfl)
  simp only [Act.put, List.setIfInBounds_toArray, List.set_cons_zero, List.set_cons_succ]
  refine wpAnyH_take (i := 13) (oi := { dst := some 29, op := Op.nilCheck (Operand.tmp 16), type := 0, pos := "node.go:27", after := #[{ on := 0, ground := Ground.data }, { on := 0, ground := Ground.phase }, { on := 1, ground := Ground.phase }, { on := 2, ground := Ground.phase }, { on := 3, ground := Ground.phase }, { on := 4, ground := Ground.phase }, { on := 5, ground := Ground.phase }, { on := 6, ground := Ground.phase }, { on := 7, ground := Ground.phase }, { on := 8, ground := Ground.phase }, { on := 9, ground := Ground.phase }, { on := 10, ground := Ground.phase }, { on := 11, ground := Ground.phase }, { on := 12, ground := Ground.phase }], guard := none }) (v := ?_) rfl (by kernel_rfl) (by kernel_rfl) (by kernel_rfl) (fun _ _ _ h => h) (Or.inl ⟨by rfl, ?_⟩) (by assumption) ?_
  rotate_left
  · first | (intro w hSw; (try dsimp only at hSw); go_simp; done) | (intro w hSw; (try dsimp only at hSw); go_simp; with_reducible rfl)
  simp only [Act.put, List.setIfInBounds_toArray, List.set_cons_zero, List.set_cons_succ]
  refine wpAnyH_take (i := 14) (oi := { dst := some 30, op := Op.fieldAddr 69 (Operand.tmp 29) 0, type := 0, pos := "node.go:27", after := #[{ on := 13, ground := Ground.data }, { on := 0, ground := Ground.phase }, { on := 1, ground := Ground.phase }, { on := 2, ground := Ground.phase }, { on := 3, ground := Ground.phase }, { on := 4, ground := Ground.phase }, { on := 5, ground := Ground.phase }, { on := 6, ground := Ground.phase }, { on := 7, ground := Ground.phase }, { on := 8, ground := Ground.phase }, { on := 9, ground := Ground.phase }, { on := 10, ground := Ground.phase }, { on := 11, ground := Ground.phase }, { on := 12, ground := Ground.phase }], guard := none }) (v := ?_) rfl (by kernel_rfl) (by kernel_rfl) (by kernel_rfl) (fun _ _ _ h => h) (Or.inl ⟨by rfl, ?_⟩) (by assumption) ?_
  rotate_left
  · first | (intro w hSw; (try dsimp only at hSw); go_simp; done) | (intro w hSw; (try dsimp only at hSw); go_simp; with_reducible rfl)
  simp only [Act.put, List.setIfInBounds_toArray, List.set_cons_zero, List.set_cons_succ]
  refine wpAnyH_take (i := 15) (oi := { dst := some 31, op := Op.fieldAddr 67 (Operand.tmp 30) 2, type := 0, pos := "node.go:27", after := #[{ on := 14, ground := Ground.data }, { on := 0, ground := Ground.phase }, { on := 1, ground := Ground.phase }, { on := 2, ground := Ground.phase }, { on := 3, ground := Ground.phase }, { on := 4, ground := Ground.phase }, { on := 5, ground := Ground.phase }, { on := 6, ground := Ground.phase }, { on := 7, ground := Ground.phase }, { on := 8, ground := Ground.phase }, { on := 9, ground := Ground.phase }, { on := 10, ground := Ground.phase }, { on := 11, ground := Ground.phase }, { on := 12, ground := Ground.phase }], guard := none }) (v := ?_) rfl (by kernel_rfl) (by kernel_rfl) (by kernel_rfl) (fun _ _ _ h => h) (Or.inl ⟨by rfl, ?_⟩) (by assumption) ?_
  rotate_left
  · first | (intro w hSw; (try dsimp only at hSw); go_simp; done) | (intro w hSw; (try dsimp only at hSw); go_simp; with_reducible rfl)
  simp only [Act.put, List.setIfInBounds_toArray, List.set_cons_zero, List.set_cons_succ]
  clear hmx hS0 hHeld
  generalize (if l.h < r.h then (r.h : Int) else (l.h : Int)) = M at *
  have hwd : Whole w4.drew w.heap.size 69 _ := HW4.out
  have hbd := HB4.out.drew
  have hrdd := HRD4.out.drewN 1
  rw [show w4.drewN 1 = w4.drew from rfl] at hrdd
  generalize w4.drew = w4d at *
  have ff := hwd.free 2
  have kk : ∃ u, w4d.cell? ⟨w.heap.size, 2, none⟩ = some u := ⟨_, hwd.at_ rfl⟩
  obtain ⟨u0, kk⟩ := kk
  have hw5 : Whole (w4d.setCell ⟨w.heap.size, 2, none⟩ (.int .i64 (T.node l r).h)) w.heap.size 69 (ncells (.slice A n c) (.slice none 0 0) (T.node l r).h 0 z32 z32 z32 (ptr (some bl)) (ptr (some br))).toArray := hwd.set 2 (.int .i64 (T.node l r).h)
  have hb5 : Below w.heap.size w (w4d.setCell ⟨w.heap.size, 2, none⟩ (.int .i64 (T.node l r).h)) := hbd.setCell (Nat.le_refl _) _
  have hrd5 : Rd (w4d.setCell ⟨w.heap.size, 2, none⟩ (.int .i64 (T.node l r).h)) w.heap.size A n r.least := hrdd.below ((Below.refl w.heap.size w4d).setCell (p := ⟨w.heap.size, 2, none⟩) (Nat.le_refl _) _) (Nat.le_refl _)
  have hS1 : (w4d.setCell ⟨w.heap.size, 2, none⟩ (.int .i64 (T.node l r).h)).cell? ⟨bl, 2, none⟩ = some (.int .i64 l.h) ∧ (w4d.setCell ⟨w.heap.size, 2, none⟩ (.int .i64 (T.node l r).h)).cell? ⟨br, 2, none⟩ = some (.int .i64 r.h) := by
    obtain ⟨l2, -, -⟩ := above_reads HL.out hb5
    obtain ⟨r2, -, -⟩ := above_reads HR.out hb5
    exact ⟨l2, r2⟩
  have HW5 := Lib.hid hw5
  have HB5 := Lib.hid hb5
  have HRD5 := Lib.hid hrd5
  clear hw5 hb5 hrd5 HW4 HB4 HRD4 hwd hbd hrdd
  refine wpAnyH_ready (rs := [16]) (by kernel_rfl) (by simp) ?_
  refine AllReadyH.cons rfl (fun K hK => ?_) AllReadyH.nil
  go_simp
  refine hK.out _ _ hS1 (fun _ => ?_)
  clear hK K hS1 ff kk
  generalize w4d.setCell ⟨w.heap.size, 2, none⟩ (.int .i64 (T.node l r).h) = w5 at *
  refine wpAnyH_done (by kernel_rfl) ?_ _
  go_upto_region 4 with (fail)
  obtain ⟨-, l2, -⟩ := above_reads HL.out HB5.out.drew
  obtain ⟨-, r2, -⟩ := above_reads HR.out HB5.out.drew
  have hmx := u64_node l r hn
  have hS0 : w5.drew.cell? ⟨bl, 3, none⟩ = some (.int .u64 l.n) ∧ w5.drew.cell? ⟨br, 3, none⟩ = some (.int .u64 r.n) := ⟨l2, r2⟩
  refine wp_region_held_drew (S := fun w' => w'.cell? ⟨bl, 3, none⟩ = some (.int .u64 l.n) ∧ w'.cell? ⟨br, 3, none⟩ = some (.int .u64 r.n)) (by kernel_rfl) hS0 (fun hHeld => ?_)
  clear l2 r2
  refine wpAnyH_take (i := 0) (oi := { dst := some 32, op := Op.move (Operand.tmp 5), type := 57, pos := "node.go:28", after := #[], guard := none }) (v := ?_) rfl (by kernel_rfl) (by kernel_rfl) (by kernel_rfl) (fun _ _ _ h => h) (Or.inl ⟨by rfl, ?_⟩) (by assumption) ?_
  rotate_left
  · first | (intro w hSw; (try dsimp only at hSw); go_simp; done) | (intro w hSw; (try dsimp only at hSw); go_simp; with_reducible rfl)
  simp only [Act.put, List.setIfInBounds_toArray, List.set_cons_zero, List.set_cons_succ]
  refine wpAnyH_take (i := 1) (oi := { dst := some 33, op := Op.move (Operand.tmp 0), type := 57, pos := "node.go:28", after := #[], guard := none }) (v := ?_) rfl (by kernel_rfl) (by kernel_rfl) (by kernel_rfl) (fun _ _ _ h => h) (Or.inl ⟨by rfl, ?_⟩) (by assumption) ?_
  rotate_left
  · first | (intro w hSw; (try dsimp only at hSw); go_simp; done) | (intro w hSw; (try dsimp only at hSw); go_simp; with_reducible rfl)
  simp only [Act.put, List.setIfInBounds_toArray, List.set_cons_zero, List.set_cons_succ]
  refine wpAnyH_take (i := 2) (oi := { dst := some 34, op := Op.nilCheck (Operand.tmp 33), type := 0, pos := "node.go:28", after := #[{ on := 1, ground := Ground.data }], guard := none }) (v := ?_) rfl (by kernel_rfl) (by kernel_rfl) (by kernel_rfl) (fun _ _ _ h => h) (Or.inl ⟨by rfl, ?_⟩) (by assumption) ?_
  rotate_left
  · first | (intro w hSw; (try dsimp only at hSw); go_simp; done) | (intro w hSw; (try dsimp only at hSw); go_simp; with_reducible rfl)
  simp only [Act.put, List.setIfInBounds_toArray, List.set_cons_zero, List.set_cons_succ]
  refine wpAnyH_take (i := 3) (oi := { dst := some 35, op := Op.fieldAddr 69 (Operand.tmp 34) 0, type := 0, pos := "node.go:28", after := #[{ on := 2, ground := Ground.data }], guard := none }) (v := ?_) rfl (by kernel_rfl) (by kernel_rfl) (by kernel_rfl) (fun _ _ _ h => h) (Or.inl ⟨by rfl, ?_⟩) (by assumption) ?_
  rotate_left
  · first | (intro w hSw; (try dsimp only at hSw); go_simp; done) | (intro w hSw; (try dsimp only at hSw); go_simp; with_reducible rfl)
  simp only [Act.put, List.setIfInBounds_toArray, List.set_cons_zero, List.set_cons_succ]
  refine wpAnyH_take (i := 4) (oi := { dst := some 36, op := Op.fieldAddr 67 (Operand.tmp 35) 3, type := 0, pos := "node.go:28", after := #[{ on := 3, ground := Ground.data }], guard := none }) (v := ?_) rfl (by kernel_rfl) (by kernel_rfl) (by kernel_rfl) (fun _ _ _ h => h) (Or.inl ⟨by rfl, ?_⟩) (by assumption) ?_
  rotate_left
  · first | (intro w hSw; (try dsimp only at hSw); go_simp; done) | (intro w hSw; (try dsimp only at hSw); go_simp; with_reducible rfl)
  simp only [Act.put, List.setIfInBounds_toArray, List.set_cons_zero, List.set_cons_succ]
  refine wpAnyH_take (i := 5) (oi := { dst := some 37, op := Op.load 42 (Operand.tmp 36), type := 42, pos := "node.go:28", after := #[{ on := 4, ground := Ground.data }], guard := none }) (v := ?_) rfl (by kernel_rfl) (by kernel_rfl) (by kernel_rfl) (fun _ _ _ h => h) (Or.inl ⟨by rfl, ?_⟩) (by assumption) ?_
  rotate_left
  · first | (intro w hSw; (try dsimp only at hSw); go_simp; done) | (intro w hSw; (try dsimp only at hSw); go_simp; with_reducible rfl)
  simp only [Act.put, List.setIfInBounds_toArray, List.set_cons_zero, List.set_cons_succ]
  refine wpAnyH_take (i := 6) (oi := { dst := some 38, op := Op.move (Operand.tmp 1), type := 57, pos := "node.go:28", after := #[], guard := none }) (v := ?_) rfl (by kernel_rfl) (by kernel_rfl) (by kernel_rfl) (fun _ _ _ h => h) (Or.inl ⟨by rfl, ?_⟩) (by assumption) ?_
  rotate_left
  · first | (intro w hSw; (try dsimp only at hSw); go_simp; done) | (intro w hSw; (try dsimp only at hSw); go_simp; with_reducible rfl)
  simp only [Act.put, List.setIfInBounds_toArray, List.set_cons_zero, List.set_cons_succ]
  refine wpAnyH_take (i := 7) (oi := { dst := some 39, op := Op.nilCheck (Operand.tmp 38), type := 0, pos := "node.go:28", after := #[{ on := 6, ground := Ground.data }], guard := none }) (v := ?_) rfl (by kernel_rfl) (by kernel_rfl) (by kernel_rfl) (fun _ _ _ h => h) (Or.inl ⟨by rfl, ?_⟩) (by assumption) ?_
  rotate_left
  · first | (intro w hSw; (try dsimp only at hSw); go_simp; done) | (intro w hSw; (try dsimp only at hSw); go_simp; with_reducible rfl)
  simp only [Act.put, List.setIfInBounds_toArray, List.set_cons_zero, List.set_cons_succ]
  refine wpAnyH_take (i := 8) (oi := { dst := some 40, op := Op.fieldAddr 69 (Operand.tmp 39) 0, type := 0, pos := "node.go:28", after := #[{ on := 7, ground := Ground.data }], guard := none }) (v := ?_) rfl (by kernel_rfl) (by kernel_rfl) (by kernel_rfl) (fun _ _ _ h => h) (Or.inl ⟨by rfl, ?_⟩) (by assumption) ?_
  rotate_left
  · first | (intro w hSw; (try dsimp only at hSw); go_simp; done) | (intro w hSw; (try dsimp only at hSw); go_simp; with_reducible rfl)
  simp only [Act.put, List.setIfInBounds_toArray, List.set_cons_zero, List.set_cons_succ]
  refine wpAnyH_take (i := 9) (oi := { dst := some 41, op := Op.fieldAddr 67 (Operand.tmp 40) 3, type := 0, pos := "node.go:28", after := #[{ on := 8, ground := Ground.data }], guard := none }) (v := ?_) rfl (by kernel_rfl) (by kernel_rfl) (by kernel_rfl) (fun _ _ _ h => h) (Or.inl ⟨by rfl, ?_⟩) (by assumption) ?_
  rotate_left
  · first | (intro w hSw; (try dsimp only at hSw); go_simp; done) | (intro w hSw; (try dsimp only at hSw); go_simp; with_reducible rfl)
  simp only [Act.put, List.setIfInBounds_toArray, List.set_cons_zero, List.set_cons_succ]
  refine wpAnyH_take (i := 10) (oi := { dst := some 42, op := Op.load 42 (Operand.tmp 41), type := 42, pos := "node.go:28", after := #[{ on := 9, ground := Ground.data }], guard := none }) (v := ?_) rfl (by kernel_rfl) (by kernel_rfl) (by kernel_rfl) (fun _ _ _ h => h) (Or.inl ⟨by rfl, ?_⟩) (by assumption) ?_
  rotate_left
  · first | (intro w hSw; (try dsimp only at hSw); go_simp; done) | (intro w hSw; (try dsimp only at hSw); go_simp; with_reducible rfl)
  simp only [Act.put, List.setIfInBounds_toArray, List.set_cons_zero, List.set_cons_succ]
  refine wpAnyH_take (i := 11) (oi := { dst := some 43, op := Op.binOp BinOp.add 42 (Operand.tmp 37) (Operand.tmp 42) 42, type := 42, pos := "node.go:28", after := #[{ on := 5, ground := Ground.data }, { on := 10, ground := Ground.data }], guard := none }) (v := ?_) rfl (by kernel_rfl) (by kernel_rfl) (by kernel_rfl) (fun _ _ _ h => h) (Or.inl ⟨by rfl, ?_⟩) (by assumption) ?_
  rotate_left
  · first | (intro w hSw; (try dsimp only at hSw); go_simp; done) | (intro w hSw; (try dsimp only at hSw); go_simp; with_reducible rfl)
  simp only [Act.put, List.setIfInBounds_toArray, List.set_cons_zero, List.set_cons_succ]
  refine wpAnyH_take (i := 12) (oi := { dst := some 44, op := Op.nilCheck (Operand.tmp 32), type := 0, pos := "node.go:28", after := #[{ on := 0, ground := Ground.data }, { on := 0, ground := Ground.phase }, { on := 1, ground := Ground.phase }, { on := 2, ground := Ground.phase }, { on := 3, ground := Ground.phase }, { on := 4, ground := Ground.phase }, { on := 5, ground := Ground.phase }, { on := 6, ground := Ground.phase }, { on := 7, ground := Ground.phase }, { on := 8, ground := Ground.phase }, { on := 9, ground := Ground.phase }, { on := 10, ground := Ground.phase }, { on := 11, ground := Ground.phase }], guard := none }) (v := ?_) rfl (by kernel_rfl) (by kernel_rfl) (by kernel_rfl) (fun _ _ _ h => h) (Or.inl ⟨by rfl, ?_⟩) (by assumption) ?_
  rotate_left
  · first | (intro w hSw; (try dsimp only at hSw); go_simp; done) | (intro w hSw; (try dsimp only at hSw); go_simp; with_reducible rfl)
  simp only [Act.put, List.setIfInBounds_toArray, List.set_cons_zero, List.set_cons_succ]
  refine wpAnyH_take (i := 13) (oi := { dst := some 45, op := Op.fieldAddr 69 (Operand.tmp 44) 0, type := 0, pos := "node.go:28", after := #[{ on := 12, ground := Ground.data }, { on := 0, ground := Ground.phase }, { on := 1, ground := Ground.phase }, { on := 2, ground := Ground.phase }, { on := 3, ground := Ground.phase }, { on := 4, ground := Ground.phase }, { on := 5, ground := Ground.phase }, { on := 6, ground := Ground.phase }, { on := 7, ground := Ground.phase }, { on := 8, ground := Ground.phase }, { on := 9, ground := Ground.phase }, { on := 10, ground := Ground.phase }, { on := 11, ground := Ground.phase }], guard := none }) (v := ?_) rfl (by kernel_rfl) (by kernel_rfl) (by kernel_rfl) (fun _ _ _ h => h) (Or.inl ⟨by rfl, ?_⟩) (by assumption) ?_
  rotate_left
  · first | (intro w hSw; (try dsimp only at hSw); go_simp; done) | (intro w hSw; (try dsimp only at hSw); go_simp; with_reducible rfl)
  simp only [Act.put, List.setIfInBounds_toArray, List.set_cons_zero, List.set_cons_succ]
  refine wpAnyH_take (i := 14) (oi := { dst := some 46, op := Op.fieldAddr 67 (Operand.tmp 45) 3, type := 0, pos := "node.go:28", after := #[{ on := 13, ground := Ground.data }, { on := 0, ground := Ground.phase }, { on := 1, ground := Ground.phase }, { on := 2, ground := Ground.phase }, { on := 3, ground := Ground.phase }, { on := 4, ground := Ground.phase }, { on := 5, ground := Ground.phase }, { on := 6, ground := Ground.phase }, { on := 7, ground := Ground.phase }, { on := 8, ground := Ground.phase }, { on := 9, ground := Ground.phase }, { on := 10, ground := Ground.phase }, { on := 11, ground := Ground.phase }], guard := none }) (v := ?_) rfl (by kernel_rfl) (by kernel_rfl) (by kernel_rfl) (fun _ _ _ h => h) (Or.inl ⟨by rfl, ?_⟩) (by assumption) ?_
  rotate_left
  · first | (intro w hSw; (try dsimp only at hSw); go_simp; done) | (intro w hSw; (try dsimp only at hSw); go_simp; with_reducible rfl)
  simp only [Act.put, List.setIfInBounds_toArray, List.set_cons_zero, List.set_cons_succ]
  clear hmx hS0 hHeld
  have hwd : Whole w5.drew w.heap.size 69 _ := HW5.out
  have hbd := HB5.out.drew
  have hrdd := HRD5.out.drewN 1
  rw [show w5.drewN 1 = w5.drew from rfl] at hrdd
  generalize w5.drew = w5d at *
  have ff := hwd.free 3
  have kk : ∃ u, w5d.cell? ⟨w.heap.size, 3, none⟩ = some u := ⟨_, hwd.at_ rfl⟩
  obtain ⟨u0, kk⟩ := kk
  have hw6 : Whole (w5d.setCell ⟨w.heap.size, 3, none⟩ (.int .u64 (T.node l r).n)) w.heap.size 69 (ncells (.slice A n c) (.slice none 0 0) (T.node l r).h (T.node l r).n z32 z32 z32 (ptr (some bl)) (ptr (some br))).toArray := hwd.set 3 (.int .u64 (T.node l r).n)
  have hb6 : Below w.heap.size w (w5d.setCell ⟨w.heap.size, 3, none⟩ (.int .u64 (T.node l r).n)) := hbd.setCell (Nat.le_refl _) _
  have hrd6 : Rd (w5d.setCell ⟨w.heap.size, 3, none⟩ (.int .u64 (T.node l r).n)) w.heap.size A n r.least := hrdd.below ((Below.refl w.heap.size w5d).setCell (p := ⟨w.heap.size, 3, none⟩) (Nat.le_refl _) _) (Nat.le_refl _)
  have hS1 : (w5d.setCell ⟨w.heap.size, 3, none⟩ (.int .u64 (T.node l r).n)).cell? ⟨bl, 3, none⟩ = some (.int .u64 l.n) ∧ (w5d.setCell ⟨w.heap.size, 3, none⟩ (.int .u64 (T.node l r).n)).cell? ⟨br, 3, none⟩ = some (.int .u64 r.n) := by
    obtain ⟨-, l2, -⟩ := above_reads HL.out hb6
    obtain ⟨-, r2, -⟩ := above_reads HR.out hb6
    exact ⟨l2, r2⟩
  have HW6 := Lib.hid hw6
  have HB6 := Lib.hid hb6
  have HRD6 := Lib.hid hrd6
  clear hw6 hb6 hrd6 HW5 HB5 HRD5 hwd hbd hrdd
  refine wpAnyH_ready (rs := [15]) (by kernel_rfl) (by simp) ?_
  refine AllReadyH.cons rfl (fun K hK => ?_) AllReadyH.nil
  go_simp
  refine hK.out _ _ hS1 (fun _ => ?_)
  clear hK K hS1 ff kk
  generalize w5d.setCell ⟨w.heap.size, 3, none⟩ (.int .u64 (T.node l r).n) = w6 at *
  refine wpAnyH_done (by kernel_rfl) ?_ _
  go_upto_region 5 with (fail)
  have hS0 : w6.drew.rangeAt bl 68 (l.sum.map V8) ∧ w6.drew.rangeAt br 68 (r.sum.map V8) := ⟨(above_reads HL.out HB6.out.drew).2.2, (above_reads HR.out HB6.out.drew).2.2⟩
  refine wp_region_held_drew (S := fun w' => w'.rangeAt bl 68 (l.sum.map V8) ∧ w'.rangeAt br 68 (r.sum.map V8)) (by kernel_rfl) hS0 (fun hHeld => ?_)
  refine wpAnyH_take (i := 0) (oi := { dst := some 47, op := Op.move (Operand.tmp 5), type := 57, pos := "node.go:29", after := #[], guard := none }) (v := ?_) rfl (by kernel_rfl) (by kernel_rfl) (by kernel_rfl) (fun _ _ _ h => h) (Or.inl ⟨by rfl, ?_⟩) (by assumption) ?_
  rotate_left
  · first | (intro w hSw; (try dsimp only at hSw); go_simp; done) | (intro w hSw; (try dsimp only at hSw); go_simp; with_reducible rfl)
  simp only [Act.put, List.setIfInBounds_toArray, List.set_cons_zero, List.set_cons_succ]
  refine wpAnyH_take (i := 1) (oi := { dst := some 48, op := Op.move (Operand.tmp 5), type := 57, pos := "node.go:29", after := #[{ on := 13, ground := Ground.gcOnly Departure.lateStores }], guard := none }) (v := ?_) rfl (by kernel_rfl) (by kernel_rfl) (by kernel_rfl) (fun _ _ _ h => h) (Or.inl ⟨by rfl, ?_⟩) (by assumption) ?_
  rotate_left
  · first | (intro w hSw; (try dsimp only at hSw); go_simp; done) | (intro w hSw; (try dsimp only at hSw); go_simp; with_reducible rfl)
  simp only [Act.put, List.setIfInBounds_toArray, List.set_cons_zero, List.set_cons_succ]
  refine wpAnyH_take (i := 2) (oi := { dst := some 49, op := Op.move (Operand.tmp 0), type := 57, pos := "node.go:29", after := #[], guard := none }) (v := ?_) rfl (by kernel_rfl) (by kernel_rfl) (by kernel_rfl) (fun _ _ _ h => h) (Or.inl ⟨by rfl, ?_⟩) (by assumption) ?_
  rotate_left
  · first | (intro w hSw; (try dsimp only at hSw); go_simp; done) | (intro w hSw; (try dsimp only at hSw); go_simp; with_reducible rfl)
  simp only [Act.put, List.setIfInBounds_toArray, List.set_cons_zero, List.set_cons_succ]
  refine wpAnyH_take (i := 3) (oi := { dst := some 50, op := Op.nilCheck (Operand.tmp 49), type := 0, pos := "node.go:29", after := #[{ on := 2, ground := Ground.data }], guard := none }) (v := ?_) rfl (by kernel_rfl) (by kernel_rfl) (by kernel_rfl) (fun _ _ _ h => h) (Or.inl ⟨by rfl, ?_⟩) (by assumption) ?_
  rotate_left
  · first | (intro w hSw; (try dsimp only at hSw); go_simp; done) | (intro w hSw; (try dsimp only at hSw); go_simp; with_reducible rfl)
  simp only [Act.put, List.setIfInBounds_toArray, List.set_cons_zero, List.set_cons_succ]
  refine wpAnyH_take (i := 4) (oi := { dst := some 51, op := Op.fieldAddr 69 (Operand.tmp 50) 1, type := 0, pos := "node.go:29", after := #[{ on := 3, ground := Ground.data }], guard := none }) (v := ?_) rfl (by kernel_rfl) (by kernel_rfl) (by kernel_rfl) (fun _ _ _ h => h) (Or.inl ⟨by rfl, ?_⟩) (by assumption) ?_
  rotate_left
  · first | (intro w hSw; (try dsimp only at hSw); go_simp; done) | (intro w hSw; (try dsimp only at hSw); go_simp; with_reducible rfl)
  simp only [Act.put, List.setIfInBounds_toArray, List.set_cons_zero, List.set_cons_succ]
  refine wpAnyH_take (i := 5) (oi := { dst := some 52, op := Op.load 44 (Operand.tmp 51), type := 44, pos := "node.go:29", after := #[{ on := 4, ground := Ground.data }], guard := none }) (v := .agg (l.sum.map V8).toArray) rfl (by kernel_rfl) (by kernel_rfl) (by kernel_rfl) (fun _ _ _ h => h) (yieldsIf_load_mid (by rfl) 44 (.tmp 51) rfl bl 68 rfl (l.sum.map V8) _ (fun _ h => h.1) Tryd.underlying44 rfl (by rw [List.length_map, sum32]; exact info49)) (by assumption) ?_
  simp only [Act.put, List.setIfInBounds_toArray, List.set_cons_zero, List.set_cons_succ]
  refine wpAnyH_take (i := 6) (oi := { dst := some 53, op := Op.move (Operand.tmp 1), type := 57, pos := "node.go:29", after := #[], guard := none }) (v := ?_) rfl (by kernel_rfl) (by kernel_rfl) (by kernel_rfl) (fun _ _ _ h => h) (Or.inl ⟨by rfl, ?_⟩) (by assumption) ?_
  rotate_left
  · first | (intro w hSw; (try dsimp only at hSw); go_simp; done) | (intro w hSw; (try dsimp only at hSw); go_simp; with_reducible rfl)
  simp only [Act.put, List.setIfInBounds_toArray, List.set_cons_zero, List.set_cons_succ]
  refine wpAnyH_take (i := 7) (oi := { dst := some 54, op := Op.nilCheck (Operand.tmp 53), type := 0, pos := "node.go:29", after := #[{ on := 6, ground := Ground.data }], guard := none }) (v := ?_) rfl (by kernel_rfl) (by kernel_rfl) (by kernel_rfl) (fun _ _ _ h => h) (Or.inl ⟨by rfl, ?_⟩) (by assumption) ?_
  rotate_left
  · first | (intro w hSw; (try dsimp only at hSw); go_simp; done) | (intro w hSw; (try dsimp only at hSw); go_simp; with_reducible rfl)
  simp only [Act.put, List.setIfInBounds_toArray, List.set_cons_zero, List.set_cons_succ]
  refine wpAnyH_take (i := 8) (oi := { dst := some 55, op := Op.fieldAddr 69 (Operand.tmp 54) 1, type := 0, pos := "node.go:29", after := #[{ on := 7, ground := Ground.data }], guard := none }) (v := ?_) rfl (by kernel_rfl) (by kernel_rfl) (by kernel_rfl) (fun _ _ _ h => h) (Or.inl ⟨by rfl, ?_⟩) (by assumption) ?_
  rotate_left
  · first | (intro w hSw; (try dsimp only at hSw); go_simp; done) | (intro w hSw; (try dsimp only at hSw); go_simp; with_reducible rfl)
  simp only [Act.put, List.setIfInBounds_toArray, List.set_cons_zero, List.set_cons_succ]
  refine wpAnyH_take (i := 9) (oi := { dst := some 56, op := Op.load 44 (Operand.tmp 55), type := 44, pos := "node.go:29", after := #[{ on := 8, ground := Ground.data }], guard := none }) (v := .agg (r.sum.map V8).toArray) rfl (by kernel_rfl) (by kernel_rfl) (by kernel_rfl) (fun _ _ _ h => h) (yieldsIf_load_mid (by rfl) 44 (.tmp 55) rfl br 68 rfl (r.sum.map V8) _ (fun _ h => h.2) Tryd.underlying44 rfl (by rw [List.length_map, sum32]; exact info49)) (by assumption) ?_
  simp only [Act.put, List.setIfInBounds_toArray, List.set_cons_zero, List.set_cons_succ]
  refine wpAnyH_take (i := 10) (oi := { dst := some 57, op := Op.nilCheck (Operand.tmp 47), type := 0, pos := "node.go:29", after := #[{ on := 0, ground := Ground.data }, { on := 0, ground := Ground.phase }, { on := 1, ground := Ground.textOnly Departure.lateStores }, { on := 2, ground := Ground.phase }, { on := 3, ground := Ground.phase }, { on := 4, ground := Ground.phase }, { on := 5, ground := Ground.phase }, { on := 6, ground := Ground.textOnly Departure.lateStores }, { on := 7, ground := Ground.textOnly Departure.lateStoresUnsure }, { on := 8, ground := Ground.textOnly Departure.lateStoresUnsure }, { on := 9, ground := Ground.phase }], guard := none }) (v := ?_) rfl (by kernel_rfl) (by kernel_rfl) (by kernel_rfl) (fun _ _ _ h => h) (Or.inl ⟨by rfl, ?_⟩) (by assumption) ?_
  rotate_left
  · first | (intro w hSw; (try dsimp only at hSw); go_simp; done) | (intro w hSw; (try dsimp only at hSw); go_simp; with_reducible rfl)
  simp only [Act.put, List.setIfInBounds_toArray, List.set_cons_zero, List.set_cons_succ]
  refine wpAnyH_take (i := 11) (oi := { dst := some 58, op := Op.fieldAddr 69 (Operand.tmp 57) 0, type := 0, pos := "node.go:29", after := #[{ on := 10, ground := Ground.data }, { on := 0, ground := Ground.phase }, { on := 1, ground := Ground.textOnly Departure.lateStores }, { on := 2, ground := Ground.phase }, { on := 3, ground := Ground.phase }, { on := 4, ground := Ground.phase }, { on := 5, ground := Ground.phase }, { on := 6, ground := Ground.textOnly Departure.lateStores }, { on := 7, ground := Ground.textOnly Departure.lateStoresUnsure }, { on := 8, ground := Ground.textOnly Departure.lateStoresUnsure }, { on := 9, ground := Ground.phase }], guard := none }) (v := ?_) rfl (by kernel_rfl) (by kernel_rfl) (by kernel_rfl) (fun _ _ _ h => h) (Or.inl ⟨by rfl, ?_⟩) (by assumption) ?_
  rotate_left
  · first | (intro w hSw; (try dsimp only at hSw); go_simp; done) | (intro w hSw; (try dsimp only at hSw); go_simp; with_reducible rfl)
  simp only [Act.put, List.setIfInBounds_toArray, List.set_cons_zero, List.set_cons_succ]
  refine wpAnyH_take (i := 12) (oi := { dst := some 59, op := Op.fieldAddr 67 (Operand.tmp 58) 4, type := 0, pos := "node.go:29", after := #[{ on := 11, ground := Ground.data }, { on := 0, ground := Ground.phase }, { on := 1, ground := Ground.textOnly Departure.lateStores }, { on := 2, ground := Ground.phase }, { on := 3, ground := Ground.phase }, { on := 4, ground := Ground.phase }, { on := 5, ground := Ground.phase }, { on := 6, ground := Ground.textOnly Departure.lateStores }, { on := 7, ground := Ground.textOnly Departure.lateStoresUnsure }, { on := 8, ground := Ground.textOnly Departure.lateStoresUnsure }, { on := 9, ground := Ground.phase }], guard := none }) (v := ?_) rfl (by kernel_rfl) (by kernel_rfl) (by kernel_rfl) (fun _ _ _ h => h) (Or.inl ⟨by rfl, ?_⟩) (by assumption) ?_
  rotate_left
  · first | (intro w hSw; (try dsimp only at hSw); go_simp; done) | (intro w hSw; (try dsimp only at hSw); go_simp; with_reducible rfl)
  simp only [Act.put, List.setIfInBounds_toArray, List.set_cons_zero, List.set_cons_succ]
  have HW6d : Hid (Whole w6.drew w.heap.size 69 _) := Lib.hid HW6.out
  have HB6d := Lib.hid HB6.out.drew
  have HRD6d := Lib.hid (HRD6.out.drewN 1)
  rw [show w6.drewN 1 = w6.drew from rfl] at HRD6d
  clear hHeld hS0 HW6 HB6 HRD6
  generalize w6.drew = w6d at *
  refine wpAnyH_ready (rs := [13]) (by kernel_rfl) (by simp) ?_
  refine AllReadyH.cons rfl (fun K hK => ?_) AllReadyH.nil
  refine Eq.mpr (if_pos (by rfl)) ?_
  refine wp_store_none (by rfl) 44 (.tmp 59) (.tmp 52) rfl w.heap.size 4 (l.sum.map V8).toArray rfl rfl ?_ ?_ (all_oneCell_toArray (one_bytes _)) ?_
  · rw [sumsize l]; exact HW6d.out.midthere 4 32 (by rw [List.size_toArray, ncells_len _ _ _ _ _ _ _ _ _ rfl rfl rfl]; omega)
  · rw [sumsize l]; exact info49
  have hw7 : Whole (w6d.setCells w.heap.size 4 (l.sum.map V8)) w.heap.size 69 (ncells (.slice A n c) (.slice none 0 0) (T.node l r).h (T.node l r).n l.sum z32 z32 (ptr (some bl)) (ptr (some br))).toArray := ncells_lstore HW6d.out rfl (sum32 l)
  have hb7 : Below w.heap.size w (w6d.setCells w.heap.size 4 (l.sum.map V8)) := below_setCells w w.heap.size _ 4 HB6d.out (Nat.le_refl _)
  have hrd7 : Rd (w6d.setCells w.heap.size 4 (l.sum.map V8)) w.heap.size A n r.least := HRD6d.out.below (below_setCells (B := w.heap.size) w6d w.heap.size _ 4 (Below.refl _ _) (Nat.le_refl _)) (Nat.le_refl _)
  have hS1 : (w6d.setCells w.heap.size 4 (l.sum.map V8)).rangeAt bl 68 (l.sum.map V8) ∧ (w6d.setCells w.heap.size 4 (l.sum.map V8)).rangeAt br 68 (r.sum.map V8) := ⟨(above_reads HL.out hb7).2.2, (above_reads HR.out hb7).2.2⟩
  have HW7 := Lib.hid hw7
  have HB7 := Lib.hid hb7
  have HRD7 := Lib.hid hrd7
  clear hw7 hb7 hrd7 HW6d HB6d HRD6d
  refine hK.out _ _ hS1 (fun _ => ?_)
  clear hK K
  show wpAnyH _ _ _ _ _ _ _ _ (w6d.setCells w.heap.size 4 (l.sum.map V8))
  generalize w6d.setCells w.heap.size 4 (l.sum.map V8) = w7 at *
  refine wpAnyH_take (i := 14) (oi := { dst := some 60, op := Op.nilCheck (Operand.tmp 48), type := 0, pos := "node.go:29", after := #[{ on := 1, ground := Ground.data }, { on := 0, ground := Ground.phase }, { on := 1, ground := Ground.phase }, { on := 2, ground := Ground.phase }, { on := 3, ground := Ground.phase }, { on := 4, ground := Ground.phase }, { on := 5, ground := Ground.phase }, { on := 6, ground := Ground.phase }, { on := 7, ground := Ground.phase }, { on := 8, ground := Ground.phase }, { on := 9, ground := Ground.phase }, { on := 10, ground := Ground.phase }, { on := 11, ground := Ground.phase }, { on := 12, ground := Ground.phase }, { on := 13, ground := Ground.phase }], guard := none }) (v := ?_) rfl (by kernel_rfl) (by kernel_rfl) (by kernel_rfl) (fun _ _ _ h => h) (Or.inl ⟨by rfl, ?_⟩) (by assumption) ?_
  rotate_left
  · first | (intro w hSw; (try dsimp only at hSw); go_simp; done) | (intro w hSw; (try dsimp only at hSw); go_simp; with_reducible rfl)
  simp only [Act.put, List.setIfInBounds_toArray, List.set_cons_zero, List.set_cons_succ]
  refine wpAnyH_take (i := 15) (oi := { dst := some 61, op := Op.fieldAddr 69 (Operand.tmp 60) 0, type := 0, pos := "node.go:29", after := #[{ on := 14, ground := Ground.data }, { on := 0, ground := Ground.phase }, { on := 1, ground := Ground.phase }, { on := 2, ground := Ground.phase }, { on := 3, ground := Ground.phase }, { on := 4, ground := Ground.phase }, { on := 5, ground := Ground.phase }, { on := 6, ground := Ground.phase }, { on := 7, ground := Ground.phase }, { on := 8, ground := Ground.phase }, { on := 9, ground := Ground.phase }, { on := 10, ground := Ground.phase }, { on := 11, ground := Ground.phase }, { on := 12, ground := Ground.phase }, { on := 13, ground := Ground.phase }], guard := none }) (v := ?_) rfl (by kernel_rfl) (by kernel_rfl) (by kernel_rfl) (fun _ _ _ h => h) (Or.inl ⟨by rfl, ?_⟩) (by assumption) ?_
  rotate_left
  · first | (intro w hSw; (try dsimp only at hSw); go_simp; done) | (intro w hSw; (try dsimp only at hSw); go_simp; with_reducible rfl)
  simp only [Act.put, List.setIfInBounds_toArray, List.set_cons_zero, List.set_cons_succ]
  refine wpAnyH_take (i := 16) (oi := { dst := some 62, op := Op.fieldAddr 67 (Operand.tmp 61) 5, type := 0, pos := "node.go:29", after := #[{ on := 15, ground := Ground.data }, { on := 0, ground := Ground.phase }, { on := 1, ground := Ground.phase }, { on := 2, ground := Ground.phase }, { on := 3, ground := Ground.phase }, { on := 4, ground := Ground.phase }, { on := 5, ground := Ground.phase }, { on := 6, ground := Ground.phase }, { on := 7, ground := Ground.phase }, { on := 8, ground := Ground.phase }, { on := 9, ground := Ground.phase }, { on := 10, ground := Ground.phase }, { on := 11, ground := Ground.phase }, { on := 12, ground := Ground.phase }, { on := 13, ground := Ground.phase }], guard := none }) (v := ?_) rfl (by kernel_rfl) (by kernel_rfl) (by kernel_rfl) (fun _ _ _ h => h) (Or.inl ⟨by rfl, ?_⟩) (by assumption) ?_
  rotate_left
  · first | (intro w hSw; (try dsimp only at hSw); go_simp; done) | (intro w hSw; (try dsimp only at hSw); go_simp; with_reducible rfl)
  simp only [Act.put, List.setIfInBounds_toArray, List.set_cons_zero, List.set_cons_succ]
  refine wpAnyH_ready (rs := [17]) (by kernel_rfl) (by simp) ?_
  refine AllReadyH.cons rfl (fun K hK => ?_) AllReadyH.nil
  refine Eq.mpr (if_pos (by rfl)) ?_
  refine wp_store_none (by rfl) 44 (.tmp 62) (.tmp 56) rfl w.heap.size 36 (r.sum.map V8).toArray rfl rfl ?_ ?_ (all_oneCell_toArray (one_bytes _)) ?_
  · rw [sumsize r]; exact HW7.out.midthere 36 32 (by rw [List.size_toArray, ncells_len _ _ _ _ _ _ _ _ _ (sum32 l) rfl rfl]; omega)
  · rw [sumsize r]; exact info49
  have hw8 : Whole (w7.setCells w.heap.size 36 (r.sum.map V8)) w.heap.size 69 (ncells (.slice A n c) (.slice none 0 0) (T.node l r).h (T.node l r).n l.sum r.sum z32 (ptr (some bl)) (ptr (some br))).toArray := ncells_rstore HW7.out (sum32 l) rfl (sum32 r)
  have hb8 : Below w.heap.size w (w7.setCells w.heap.size 36 (r.sum.map V8)) := below_setCells w w.heap.size _ 36 HB7.out (Nat.le_refl _)
  have hrd8 : Rd (w7.setCells w.heap.size 36 (r.sum.map V8)) w.heap.size A n r.least := HRD7.out.below (below_setCells (B := w.heap.size) w7 w.heap.size _ 36 (Below.refl _ _) (Nat.le_refl _)) (Nat.le_refl _)
  have hS1 : (w7.setCells w.heap.size 36 (r.sum.map V8)).rangeAt bl 68 (l.sum.map V8) ∧ (w7.setCells w.heap.size 36 (r.sum.map V8)).rangeAt br 68 (r.sum.map V8) := ⟨(above_reads HL.out hb8).2.2, (above_reads HR.out hb8).2.2⟩
  have HW8 := Lib.hid hw8
  have HB8 := Lib.hid hb8
  have HRD8 := Lib.hid hrd8
  clear hw8 hb8 hrd8 HW7 HB7 HRD7
  refine hK.out _ _ hS1 (fun _ => ?_)
  clear hK K
  show wpAnyH _ _ _ _ _ _ _ _ (w7.setCells w.heap.size 36 (r.sum.map V8))
  generalize w7.setCells w.heap.size 36 (r.sum.map V8) = w8 at *
  refine wpAnyH_done (by kernel_rfl) ?_ _
  go_upto_region 6 with (fail)
  have hz : (UInt64.ofNat (T.node l r).n).toNat = (T.node l r).n := by
    have h0 : (T.node l r).n = l.n + r.n := rfl
    rw [UInt64.toNat_ofNat_of_lt']
    show _ < 18446744073709551616
    omega
  have hsz : w.heap.size < w8.heap.size := HW8.out.lt
  have hH := hash_inner (.slice A n c) (.slice none 0 0) ((T.node l r).h : Int) (UInt8.ofNat (T.node l r).h) (UInt64.ofNat (T.node l r).n) l.sum r.sum w8 (by have := h_ne l r; omega) (u8_len _) (sum32 l) (sum32 r) (Sh.tab_below HT.out HB8.out hw1) (by omega)
  rw [hz] at hH
  have HH := Lib.hid hH
  clear hH hz hS1
  refine wp_region_lit ?_
  iterate 12 go_step
  refine wpList_load_mid rfl 67 (.tmp 66) rfl w.heap.size 0 rfl _ _ (ncells_arange HW8.out) Tryd.underlying67 rfl (by rw [acells_len _ _ _ _ _ _ (sum32 l) (sum32 r)]; exact info64) ?_
  go_wp2_with fail
  refine HH.out.mono ?_
  rintro e w9 ⟨rfl, hb9⟩
  have HW9 := Lib.hid (HW8.out.below hb9 HW8.out.lt)
  have HB9 := Lib.hid (HB8.out.trans (hb9.mono HB8.out.size))
  have HRD9 := Lib.hid (HRD8.out.below hb9 (Nat.le_of_lt HW8.out.lt))
  clear hb9 HH HW8 HB8 HRD8
  obtain ⟨S, hS⟩ : ∃ S, Sh.Sha.sum (innerText (UInt8.ofNat (T.node l r).h) (UInt64.ofNat (T.node l r).n) l.sum r.sum) = S := ⟨_, rfl⟩
  have hS32 : S.length = 32 := by rw [← hS]; exact Sh.sum_length _
  have hsizeY : (Sh.bcells S).size = 32 := (Sh.bcells_size S).trans hS32
  rw [hS]
  have HS := Lib.hid hS
  clear hS
  simp only []
  iterate 7 go_step
  refine wpList_store_mid rfl 44 (.tmp 70) (.tmp 68) rfl w.heap.size 68 (Sh.bcells S) rfl rfl ?_ ?_ (Sh.bcells_one S) ?_
  · rw [hsizeY]; exact HW9.out.midthere 68 32 (by rw [List.size_toArray, ncells_len _ _ _ _ _ _ _ _ _ (sum32 l) (sum32 r) rfl]; omega)
  · rw [hsizeY]; exact info49
  have HWA := Lib.hid (ncells_store HW9.out (sum32 l) (sum32 r) rfl hS32)
  have HBA := Lib.hid (below_setCells w w.heap.size (S.map V8) 68 HB9.out (Nat.le_refl _))
  have HRDA := Lib.hid (HRD9.out.below (below_setCells (B := w.heap.size) w9 w.heap.size (S.map V8) 68 (Below.refl _ _) (Nat.le_refl _)) (Nat.le_refl _))
  clear HW9 HB9 HRD9
  show wpList _ _ _ _ _ (w9.setCells w.heap.size 68 (S.map V8))
  generalize w9.setCells w.heap.size 68 (S.map V8) = wA at *
  go_wp2_with fail
  go_ret
  have hlt := HWA.out.lt
  have hle := Nat.le_of_lt hlt
  refine ⟨w.heap.size, rfl, ⟨A, n, c, none, 0, 0, bl, br, ⟨hlt, ?_, HRDA.out.more hle, hnc, hn96, Rd.nil, Nat.le_refl _, by omega, HG.out.2 _ (Nat.le_refl _), HGA.out, fun h => absurd h (by omega)⟩, (HL.out.below HBA.out (Nat.le_refl _)).more hle, (HR.out.below HBA.out (Nat.le_refl _)).more hle⟩, HBA.out⟩
  rw [← HS.out] at HWA
  exact HWA.out
end Go.Proofs.YtehmkkccnadhoaaDoor
namespace Go.Proofs.YtehmkkccnadhoaaDoor
open Go.RowKit
open Tr
variable {G : Nat → Prop}

/-- Where the two beneath a node are, and how high it is. -/
theorem NHas.sides {w w' : World} {B b n c n' c' x y : Nat} {t : T} {A A' : Option Addr} (h : NHas G w B t b A n c A' n' c' (some x) (some y)) (hb : Below B w w') :
    w'.cell? ⟨b, 100, none⟩ = some (.pointer (some ⟨x, 0, none⟩)) ∧ w'.cell? ⟨b, 101, none⟩ = some (.pointer (some ⟨y, 0, none⟩)) := by
  obtain ⟨_, _, _, _, c100, c101⟩ := (h.below hb (Nat.le_refl _)).cells
  exact ⟨c100, c101⟩
theorem NIn.high {w w' : World} {B b : Nat} {t : T} (h : NIn G w B t b) (hb : Below B w w') : w'.cell? ⟨b, 2, none⟩ = some (.int .i64 t.h) := by
  obtain ⟨A, n, c, A', n', c', x, y, hh⟩ := (h.below hb (Nat.le_refl _)).has
  exact hh.cells.2.2.1
theorem NIn.on {w w' : World} {t : T} {b : Nat} (h : NIn G w w.heap.size t b) (hb : Below w.heap.size w w') : NIn G w' w'.heap.size t b := (h.below hb (Nat.le_refl _)).more hb.size

set_option maxRecDepth 100000 in
set_option maxHeartbeats 1000000 in
theorem leanL_any (a m r : T) (b br : Nat) (w : World) (hl : NIn G w w.heap.size (.node a m) b) (hr : NIn G w w.heap.size r br) (hn : a.n + m.n + r.n ≤ 4294967296) (ht : Sh.Tab w 2) (hw : Room G w) :
    Calls Tryd.prog 63 #[ptr (some b), ptr (some br)] w (NodePost G (leanL a m r) w) := by
  obtain ⟨A, n, c, A', n', c', x, y, hh, hx, hy⟩ := hl
  have hbr := hr.lt
  obtain ⟨c100, c101⟩ := hh.sides (Below.refl _ _)
  have ca := hx.high (Below.refl _ _)
  have cm := hy.high (Below.refl _ _)
  have HX := Lib.hid hx
  have HY := Lib.hid hy
  have HR := Lib.hid hr
  have HT := Lib.hid ht
  clear hh hx hy hr ht
  rw [ptr_some, ptr_some]
  by_cases hlt : a.h < m.h
  · obtain ⟨p, q, rfl⟩ : ∃ p q, m = .node p q := T.node_of_h (by omega)
    have hq : decide (a.h < (T.node p q).h) = true := by simpa using hlt
    have HG : Hid (leanL a (.node p q) r = .node (.node a p) (.node q r)) := Lib.hid (by unfold leanL; rw [if_pos hlt])
    rw [HG.out]
    obtain ⟨Am, nm, cm', Am', nm', cm'', xp, yp, hm, hp, hq2⟩ := HY.out
    have HM := Lib.hid hm
    have HP := Lib.hid hp
    have HQ := Lib.hid hq2
    have e0 : (T.node p q).n = p.n + q.n := rfl
    clear hm hp hq2 HG HY hlt
    generalize (T.node p q).h = mh at *
    generalize a.h = ah at *
    go_enter Tryd.func63, Tryd.ntmps63
    go_wp2_with fail
    go_quiet (fail)
    rename Nat => nq1
    go_wp2_with fail
    go_quiet (fail)
    rename Nat => nq2
    go_upto_region 3 with (fail)
    have hbq : Below w.heap.size w ((w.drewN nq1).drewN nq2).drew := (below_drewN (below_drewN (Below.refl _ _) _) _).drew
    generalize (w.drewN nq1).drewN nq2 = wq at *
    have hS0 : wq.drew.cell? ⟨y, 100, none⟩ = some (.pointer (some ⟨xp, 0, none⟩)) ∧ wq.drew.cell? ⟨y, 101, none⟩ = some (.pointer (some ⟨yp, 0, none⟩)) := HM.out.sides hbq
    refine wp_region_held_drew (S := fun w' => w'.cell? ⟨y, 100, none⟩ = some (.pointer (some ⟨xp, 0, none⟩)) ∧ w'.cell? ⟨y, 101, none⟩ = some (.pointer (some ⟨yp, 0, none⟩))) (by kernel_rfl) hS0 (fun hHeld => ?_)
    refine wpAnyH_take (i := 0) (oi := { dst := some 26, op := Op.move (Operand.tmp 5), type := 57, pos := "node.go:48", after := #[], guard := none }) (v := ?_) rfl (by kernel_rfl) (by kernel_rfl) (by kernel_rfl) (fun _ _ _ h => h) (Or.inl ⟨by rfl, ?_⟩) (by assumption) ?_
    rotate_left
    · first | (intro w hSw; (try dsimp only at hSw); go_simp; done) | (intro w hSw; (try dsimp only at hSw); go_simp; with_reducible rfl)
    simp only [Act.put, List.setIfInBounds_toArray, List.set_cons_zero, List.set_cons_succ]
    refine wpAnyH_take (i := 1) (oi := { dst := some 27, op := Op.move (Operand.tmp 6), type := 57, pos := "node.go:48", after := #[], guard := none }) (v := ?_) rfl (by kernel_rfl) (by kernel_rfl) (by kernel_rfl) (fun _ _ _ h => h) (Or.inl ⟨by rfl, ?_⟩) (by assumption) ?_
    rotate_left
    · first | (intro w hSw; (try dsimp only at hSw); go_simp; done) | (intro w hSw; (try dsimp only at hSw); go_simp; with_reducible rfl)
    simp only [Act.put, List.setIfInBounds_toArray, List.set_cons_zero, List.set_cons_succ]
    refine wpAnyH_take (i := 2) (oi := { dst := some 28, op := Op.nilCheck (Operand.tmp 27), type := 0, pos := "node.go:48", after := #[{ on := 1, ground := Ground.data }], guard := none }) (v := ?_) rfl (by kernel_rfl) (by kernel_rfl) (by kernel_rfl) (fun _ _ _ h => h) (Or.inl ⟨by rfl, ?_⟩) (by assumption) ?_
    rotate_left
    · first | (intro w hSw; (try dsimp only at hSw); go_simp; done) | (intro w hSw; (try dsimp only at hSw); go_simp; with_reducible rfl)
    simp only [Act.put, List.setIfInBounds_toArray, List.set_cons_zero, List.set_cons_succ]
    refine wpAnyH_take (i := 3) (oi := { dst := some 29, op := Op.fieldAddr 69 (Operand.tmp 28) 2, type := 0, pos := "node.go:48", after := #[{ on := 2, ground := Ground.data }], guard := none }) (v := ?_) rfl (by kernel_rfl) (by kernel_rfl) (by kernel_rfl) (fun _ _ _ h => h) (Or.inl ⟨by rfl, ?_⟩) (by assumption) ?_
    rotate_left
    · first | (intro w hSw; (try dsimp only at hSw); go_simp; done) | (intro w hSw; (try dsimp only at hSw); go_simp; with_reducible rfl)
    simp only [Act.put, List.setIfInBounds_toArray, List.set_cons_zero, List.set_cons_succ]
    refine wpAnyH_take (i := 4) (oi := { dst := some 30, op := Op.load 57 (Operand.tmp 29), type := 57, pos := "node.go:48", after := #[{ on := 3, ground := Ground.data }], guard := none }) (v := ?_) rfl (by kernel_rfl) (by kernel_rfl) (by kernel_rfl) (fun _ _ _ h => h) (Or.inl ⟨by rfl, ?_⟩) (by assumption) ?_
    rotate_left
    · first | (intro w hSw; (try dsimp only at hSw); go_simp; done) | (intro w hSw; (try dsimp only at hSw); go_simp; with_reducible rfl)
    simp only [Act.put, List.setIfInBounds_toArray, List.set_cons_zero, List.set_cons_succ]
    refine wpAnyH_take (i := 6) (oi := { dst := some 32, op := Op.move (Operand.tmp 6), type := 57, pos := "node.go:48", after := #[], guard := none }) (v := ?_) rfl (by kernel_rfl) (by kernel_rfl) (by kernel_rfl) (fun _ _ _ h => h) (Or.inl ⟨by rfl, ?_⟩) (by assumption) ?_
    rotate_left
    · first | (intro w hSw; (try dsimp only at hSw); go_simp; done) | (intro w hSw; (try dsimp only at hSw); go_simp; with_reducible rfl)
    simp only [Act.put, List.setIfInBounds_toArray, List.set_cons_zero, List.set_cons_succ]
    refine wpAnyH_take (i := 7) (oi := { dst := some 33, op := Op.nilCheck (Operand.tmp 32), type := 0, pos := "node.go:48", after := #[{ on := 6, ground := Ground.data }], guard := none }) (v := ?_) rfl (by kernel_rfl) (by kernel_rfl) (by kernel_rfl) (fun _ _ _ h => h) (Or.inl ⟨by rfl, ?_⟩) (by assumption) ?_
    rotate_left
    · first | (intro w hSw; (try dsimp only at hSw); go_simp; done) | (intro w hSw; (try dsimp only at hSw); go_simp; with_reducible rfl)
    simp only [Act.put, List.setIfInBounds_toArray, List.set_cons_zero, List.set_cons_succ]
    refine wpAnyH_take (i := 8) (oi := { dst := some 34, op := Op.fieldAddr 69 (Operand.tmp 33) 3, type := 0, pos := "node.go:48", after := #[{ on := 7, ground := Ground.data }], guard := none }) (v := ?_) rfl (by kernel_rfl) (by kernel_rfl) (by kernel_rfl) (fun _ _ _ h => h) (Or.inl ⟨by rfl, ?_⟩) (by assumption) ?_
    rotate_left
    · first | (intro w hSw; (try dsimp only at hSw); go_simp; done) | (intro w hSw; (try dsimp only at hSw); go_simp; with_reducible rfl)
    simp only [Act.put, List.setIfInBounds_toArray, List.set_cons_zero, List.set_cons_succ]
    refine wpAnyH_take (i := 9) (oi := { dst := some 35, op := Op.load 57 (Operand.tmp 34), type := 57, pos := "node.go:48", after := #[{ on := 8, ground := Ground.data }], guard := none }) (v := ?_) rfl (by kernel_rfl) (by kernel_rfl) (by kernel_rfl) (fun _ _ _ h => h) (Or.inl ⟨by rfl, ?_⟩) (by assumption) ?_
    rotate_left
    · first | (intro w hSw; (try dsimp only at hSw); go_simp; done) | (intro w hSw; (try dsimp only at hSw); go_simp; with_reducible rfl)
    simp only [Act.put, List.setIfInBounds_toArray, List.set_cons_zero, List.set_cons_succ]
    refine wpAnyH_take (i := 10) (oi := { dst := some 36, op := Op.move (Operand.tmp 1), type := 57, pos := "node.go:48", after := #[], guard := none }) (v := ?_) rfl (by kernel_rfl) (by kernel_rfl) (by kernel_rfl) (fun _ _ _ h => h) (Or.inl ⟨by rfl, ?_⟩) (by assumption) ?_
    rotate_left
    · first | (intro w hSw; (try dsimp only at hSw); go_simp; done) | (intro w hSw; (try dsimp only at hSw); go_simp; with_reducible rfl)
    simp only [Act.put, List.setIfInBounds_toArray, List.set_cons_zero, List.set_cons_succ]
    clear hS0 hHeld c100 c101 ca cm hq
    generalize wq.drew = w1 at *
    have hs1 := hbq.size
    have HC1 := Lib.hid (above_any a p x xp w1 (HX.out.on hbq) (HP.out.on hbq) (by omega) (Sh.tab_below HT.out hbq hw.1) (hw.on hbq))
    rw [ptr_some, ptr_some] at HC1
    refine wpAnyH_ready (rs := [5]) (by kernel_rfl) (by simp) ?_
    refine AllReadyH.cons rfl (fun K hK => ?_) AllReadyH.nil
    go_simp
    refine HC1.out.mono ?_
    rintro e w2 ⟨b1, rfl, hN1, hb2⟩
    rw [ptr_some]
    replace hb2 := hbq.trans (hb2.mono hbq.size)
    have hs2 := hb2.size
    have HN1 := Lib.hid hN1
    refine hK.out _ _ (HM.out.sides hb2) (fun _ => ?_)
    clear hK K hN1 HC1 hbq hs1
    have HC2 := Lib.hid (above_any q r yp br w2 (HQ.out.on hb2) (HR.out.on hb2) (by omega) (Sh.tab_below HT.out hb2 hw.1) (hw.on hb2))
    rw [ptr_some, ptr_some] at HC2
    refine wpAnyH_ready (rs := [11]) (by kernel_rfl) (by simp) ?_
    refine AllReadyH.cons rfl (fun K hK => ?_) AllReadyH.nil
    go_simp
    refine HC2.out.mono ?_
    rintro e w3 ⟨b2, rfl, hN2, hb3⟩
    rw [ptr_some]
    have HN13 := Lib.hid (HN1.out.on hb3)
    replace hb3 := hb2.trans (hb3.mono hb2.size)
    have hs3 := hb3.size
    have HN2 := Lib.hid hN2
    refine hK.out _ _ (HM.out.sides hb3) (fun _ => ?_)
    clear hK K hN2 HC2 hb2 hs2 HN1
    have HC3 := Lib.hid (above_any (.node a p) (.node q r) b1 b2 w3 HN13.out HN2.out (by show (a.n + p.n) + (q.n + r.n) ≤ _; omega) (Sh.tab_below HT.out hb3 hw.1) (hw.on hb3))
    rw [ptr_some, ptr_some] at HC3
    refine wpAnyH_ready (rs := [12]) (by kernel_rfl) (by simp) ?_
    refine AllReadyH.cons rfl (fun K hK => ?_) AllReadyH.nil
    go_simp
    refine HC3.out.mono ?_
    rintro e w4 ⟨b3, rfl, hN3, hb4⟩
    rw [ptr_some]
    replace hb4 := hb3.trans (hb4.mono hb3.size)
    have HN3 := Lib.hid hN3
    have HB4 := Lib.hid hb4
    have hHeld := HM.out.sides hb4
    refine hK.out _ _ hHeld (fun _ => ?_)
    clear hK K hN3 HC3 hb3 hs3 HN13 HN2 hb4
    refine wpAnyH_take (i := 13) (oi := { dst := some 4, op := Op.assign (Operand.tmp 38), type := 57, pos := "node.go:48", after := #[{ on := 12, ground := Ground.data }, { on := 12, ground := Ground.chain }, { on := 0, ground := Ground.phase }, { on := 1, ground := Ground.phase }, { on := 2, ground := Ground.phase }, { on := 3, ground := Ground.phase }, { on := 4, ground := Ground.phase }, { on := 5, ground := Ground.phase }, { on := 6, ground := Ground.phase }, { on := 7, ground := Ground.phase }, { on := 8, ground := Ground.phase }, { on := 9, ground := Ground.phase }, { on := 10, ground := Ground.phase }, { on := 11, ground := Ground.phase }, { on := 12, ground := Ground.phase }], guard := none }) (v := ?_) rfl (by kernel_rfl) (by kernel_rfl) (by kernel_rfl) (fun _ _ _ h => h) (Or.inl ⟨by rfl, ?_⟩) (by assumption) ?_
    rotate_left
    · first | (intro w hSw; (try dsimp only at hSw); go_simp; done) | (intro w hSw; (try dsimp only at hSw); go_simp; with_reducible rfl)
    simp only [Act.put, List.setIfInBounds_toArray, List.set_cons_zero, List.set_cons_succ]
    refine wpAnyH_done (by kernel_rfl) ?_ _
    clear hHeld
    go_wp2_with fail
    go_ret
    exact ⟨b3, rfl, HN3.out, HB4.out⟩
  · have hq : decide (a.h < m.h) = false := by simpa using hlt
    have HG : Hid (leanL a m r = .node a (.node m r)) := Lib.hid (by unfold leanL; rw [if_neg hlt])
    rw [HG.out]
    clear HG hlt
    generalize m.h = mh at *
    generalize a.h = ah at *
    go_enter Tryd.func63, Tryd.ntmps63
    go_wp2_with fail
    go_quiet (fail)
    rename Nat => nq1
    go_wp2_with fail
    go_quiet (fail)
    rename Nat => nq2
    have hbq : Below w.heap.size w ((w.drewN nq1).drewN nq2) := below_drewN (below_drewN (Below.refl _ _) _) _
    go_upto_region 4 with (fail)
    generalize (w.drewN nq1).drewN nq2 = w1 at *
    clear c100 c101 ca cm hq
    have hs1 := hbq.size
    have HC1 := Lib.hid (above_any m r y br w1 (HY.out.on hbq) (HR.out.on hbq) (by omega) (Sh.tab_below HT.out hbq hw.1) (hw.on hbq))
    rw [ptr_some, ptr_some] at HC1
    go_wp2_with fail
    refine HC1.out.mono ?_
    rintro e w2 ⟨b1, rfl, hN1, hb2⟩
    rw [ptr_some]
    replace hb2 := hbq.trans (hb2.mono hbq.size)
    have hs2 := hb2.size
    have HC2 := Lib.hid (above_any a (.node m r) x b1 w2 (HX.out.on hb2) hN1 (by show a.n + (m.n + r.n) ≤ _; omega) (Sh.tab_below HT.out hb2 hw.1) (hw.on hb2))
    rw [ptr_some, ptr_some] at HC2
    have HB2 := Lib.hid hb2
    clear hN1 HC1 hbq hs1 hb2 hs2
    go_wp2_with fail
    refine HC2.out.mono ?_
    rintro e w3 ⟨b2, rfl, hN2, hb3⟩
    rw [ptr_some]
    have HN2 := Lib.hid hN2
    have HB3 := Lib.hid (HB2.out.trans (hb3.mono HB2.out.size))
    clear hN2 hb3 HC2 HB2
    go_wp2_with fail
    go_ret
    exact ⟨b2, rfl, HN2.out, HB3.out⟩
set_option maxRecDepth 100000 in
set_option maxHeartbeats 1000000 in
theorem leanR_any (r m a : T) (br b : Nat) (w : World) (hl : NIn G w w.heap.size r br) (hr : NIn G w w.heap.size (.node m a) b) (hn : r.n + m.n + a.n ≤ 4294967296) (ht : Sh.Tab w 2) (hw : Room G w) :
    Calls Tryd.prog 64 #[ptr (some br), ptr (some b)] w (NodePost G (leanR r m a) w) := by
  obtain ⟨A, n, c, A', n', c', y, x, hh, hy, hx⟩ := hr
  have hbr := hl.lt
  obtain ⟨c100, c101⟩ := hh.sides (Below.refl _ _)
  have ca := hx.high (Below.refl _ _)
  have cm := hy.high (Below.refl _ _)
  have HX := Lib.hid hx
  have HY := Lib.hid hy
  have HR := Lib.hid hl
  have HT := Lib.hid ht
  clear hh hx hy hl ht
  rw [ptr_some, ptr_some]
  by_cases hlt : a.h < m.h
  · obtain ⟨p, q, rfl⟩ : ∃ p q, m = .node p q := T.node_of_h (by omega)
    have hq : decide (a.h < (T.node p q).h) = true := by simpa using hlt
    have HG : Hid (leanR r (.node p q) a = .node (.node r p) (.node q a)) := Lib.hid (by unfold leanR; rw [if_pos hlt])
    rw [HG.out]
    obtain ⟨Am, nm, cm', Am', nm', cm'', xp, yp, hm, hp, hq2⟩ := HY.out
    have HM := Lib.hid hm
    have HP := Lib.hid hp
    have HQ := Lib.hid hq2
    have e0 : (T.node p q).n = p.n + q.n := rfl
    clear hm hp hq2 HG HY hlt
    generalize (T.node p q).h = mh at *
    generalize a.h = ah at *
    go_enter Tryd.func64, Tryd.ntmps64
    go_wp2_with fail
    go_quiet (fail)
    rename Nat => nq1
    go_wp2_with fail
    go_quiet (fail)
    rename Nat => nq2
    go_upto_region 3 with (fail)
    have hbq : Below w.heap.size w ((w.drewN nq1).drewN nq2).drew := (below_drewN (below_drewN (Below.refl _ _) _) _).drew
    generalize (w.drewN nq1).drewN nq2 = wq at *
    have hS0 : wq.drew.cell? ⟨y, 100, none⟩ = some (.pointer (some ⟨xp, 0, none⟩)) ∧ wq.drew.cell? ⟨y, 101, none⟩ = some (.pointer (some ⟨yp, 0, none⟩)) := HM.out.sides hbq
    refine wp_region_held_drew (S := fun w' => w'.cell? ⟨y, 100, none⟩ = some (.pointer (some ⟨xp, 0, none⟩)) ∧ w'.cell? ⟨y, 101, none⟩ = some (.pointer (some ⟨yp, 0, none⟩))) (by kernel_rfl) hS0 (fun hHeld => ?_)
    refine wpAnyH_take (i := 0) (oi := { dst := some 26, op := Op.move (Operand.tmp 0), type := 57, pos := "node.go:56", after := #[], guard := none }) (v := ?_) rfl (by kernel_rfl) (by kernel_rfl) (by kernel_rfl) (fun _ _ _ h => h) (Or.inl ⟨by rfl, ?_⟩) (by assumption) ?_
    rotate_left
    · first | (intro w hSw; (try dsimp only at hSw); go_simp; done) | (intro w hSw; (try dsimp only at hSw); go_simp; with_reducible rfl)
    simp only [Act.put, List.setIfInBounds_toArray, List.set_cons_zero, List.set_cons_succ]
    refine wpAnyH_take (i := 1) (oi := { dst := some 27, op := Op.move (Operand.tmp 5), type := 57, pos := "node.go:56", after := #[], guard := none }) (v := ?_) rfl (by kernel_rfl) (by kernel_rfl) (by kernel_rfl) (fun _ _ _ h => h) (Or.inl ⟨by rfl, ?_⟩) (by assumption) ?_
    rotate_left
    · first | (intro w hSw; (try dsimp only at hSw); go_simp; done) | (intro w hSw; (try dsimp only at hSw); go_simp; with_reducible rfl)
    simp only [Act.put, List.setIfInBounds_toArray, List.set_cons_zero, List.set_cons_succ]
    refine wpAnyH_take (i := 2) (oi := { dst := some 28, op := Op.nilCheck (Operand.tmp 27), type := 0, pos := "node.go:56", after := #[{ on := 1, ground := Ground.data }], guard := none }) (v := ?_) rfl (by kernel_rfl) (by kernel_rfl) (by kernel_rfl) (fun _ _ _ h => h) (Or.inl ⟨by rfl, ?_⟩) (by assumption) ?_
    rotate_left
    · first | (intro w hSw; (try dsimp only at hSw); go_simp; done) | (intro w hSw; (try dsimp only at hSw); go_simp; with_reducible rfl)
    simp only [Act.put, List.setIfInBounds_toArray, List.set_cons_zero, List.set_cons_succ]
    refine wpAnyH_take (i := 3) (oi := { dst := some 29, op := Op.fieldAddr 69 (Operand.tmp 28) 2, type := 0, pos := "node.go:56", after := #[{ on := 2, ground := Ground.data }], guard := none }) (v := ?_) rfl (by kernel_rfl) (by kernel_rfl) (by kernel_rfl) (fun _ _ _ h => h) (Or.inl ⟨by rfl, ?_⟩) (by assumption) ?_
    rotate_left
    · first | (intro w hSw; (try dsimp only at hSw); go_simp; done) | (intro w hSw; (try dsimp only at hSw); go_simp; with_reducible rfl)
    simp only [Act.put, List.setIfInBounds_toArray, List.set_cons_zero, List.set_cons_succ]
    refine wpAnyH_take (i := 4) (oi := { dst := some 30, op := Op.load 57 (Operand.tmp 29), type := 57, pos := "node.go:56", after := #[{ on := 3, ground := Ground.data }], guard := none }) (v := ?_) rfl (by kernel_rfl) (by kernel_rfl) (by kernel_rfl) (fun _ _ _ h => h) (Or.inl ⟨by rfl, ?_⟩) (by assumption) ?_
    rotate_left
    · first | (intro w hSw; (try dsimp only at hSw); go_simp; done) | (intro w hSw; (try dsimp only at hSw); go_simp; with_reducible rfl)
    simp only [Act.put, List.setIfInBounds_toArray, List.set_cons_zero, List.set_cons_succ]
    refine wpAnyH_take (i := 6) (oi := { dst := some 32, op := Op.move (Operand.tmp 5), type := 57, pos := "node.go:56", after := #[], guard := none }) (v := ?_) rfl (by kernel_rfl) (by kernel_rfl) (by kernel_rfl) (fun _ _ _ h => h) (Or.inl ⟨by rfl, ?_⟩) (by assumption) ?_
    rotate_left
    · first | (intro w hSw; (try dsimp only at hSw); go_simp; done) | (intro w hSw; (try dsimp only at hSw); go_simp; with_reducible rfl)
    simp only [Act.put, List.setIfInBounds_toArray, List.set_cons_zero, List.set_cons_succ]
    refine wpAnyH_take (i := 7) (oi := { dst := some 33, op := Op.nilCheck (Operand.tmp 32), type := 0, pos := "node.go:56", after := #[{ on := 6, ground := Ground.data }], guard := none }) (v := ?_) rfl (by kernel_rfl) (by kernel_rfl) (by kernel_rfl) (fun _ _ _ h => h) (Or.inl ⟨by rfl, ?_⟩) (by assumption) ?_
    rotate_left
    · first | (intro w hSw; (try dsimp only at hSw); go_simp; done) | (intro w hSw; (try dsimp only at hSw); go_simp; with_reducible rfl)
    simp only [Act.put, List.setIfInBounds_toArray, List.set_cons_zero, List.set_cons_succ]
    refine wpAnyH_take (i := 8) (oi := { dst := some 34, op := Op.fieldAddr 69 (Operand.tmp 33) 3, type := 0, pos := "node.go:56", after := #[{ on := 7, ground := Ground.data }], guard := none }) (v := ?_) rfl (by kernel_rfl) (by kernel_rfl) (by kernel_rfl) (fun _ _ _ h => h) (Or.inl ⟨by rfl, ?_⟩) (by assumption) ?_
    rotate_left
    · first | (intro w hSw; (try dsimp only at hSw); go_simp; done) | (intro w hSw; (try dsimp only at hSw); go_simp; with_reducible rfl)
    simp only [Act.put, List.setIfInBounds_toArray, List.set_cons_zero, List.set_cons_succ]
    refine wpAnyH_take (i := 9) (oi := { dst := some 35, op := Op.load 57 (Operand.tmp 34), type := 57, pos := "node.go:56", after := #[{ on := 8, ground := Ground.data }], guard := none }) (v := ?_) rfl (by kernel_rfl) (by kernel_rfl) (by kernel_rfl) (fun _ _ _ h => h) (Or.inl ⟨by rfl, ?_⟩) (by assumption) ?_
    rotate_left
    · first | (intro w hSw; (try dsimp only at hSw); go_simp; done) | (intro w hSw; (try dsimp only at hSw); go_simp; with_reducible rfl)
    simp only [Act.put, List.setIfInBounds_toArray, List.set_cons_zero, List.set_cons_succ]
    refine wpAnyH_take (i := 10) (oi := { dst := some 36, op := Op.move (Operand.tmp 6), type := 57, pos := "node.go:56", after := #[], guard := none }) (v := ?_) rfl (by kernel_rfl) (by kernel_rfl) (by kernel_rfl) (fun _ _ _ h => h) (Or.inl ⟨by rfl, ?_⟩) (by assumption) ?_
    rotate_left
    · first | (intro w hSw; (try dsimp only at hSw); go_simp; done) | (intro w hSw; (try dsimp only at hSw); go_simp; with_reducible rfl)
    simp only [Act.put, List.setIfInBounds_toArray, List.set_cons_zero, List.set_cons_succ]
    clear hS0 hHeld c100 c101 ca cm hq
    generalize wq.drew = w1 at *
    have hs1 := hbq.size
    have HC1 := Lib.hid (above_any r p br xp w1 (HR.out.on hbq) (HP.out.on hbq) (by omega) (Sh.tab_below HT.out hbq hw.1) (hw.on hbq))
    rw [ptr_some, ptr_some] at HC1
    refine wpAnyH_ready (rs := [5]) (by kernel_rfl) (by simp) ?_
    refine AllReadyH.cons rfl (fun K hK => ?_) AllReadyH.nil
    go_simp
    refine HC1.out.mono ?_
    rintro e w2 ⟨b1, rfl, hN1, hb2⟩
    rw [ptr_some]
    replace hb2 := hbq.trans (hb2.mono hbq.size)
    have hs2 := hb2.size
    have HN1 := Lib.hid hN1
    refine hK.out _ _ (HM.out.sides hb2) (fun _ => ?_)
    clear hK K hN1 HC1 hbq hs1
    have HC2 := Lib.hid (above_any q a yp x w2 (HQ.out.on hb2) (HX.out.on hb2) (by omega) (Sh.tab_below HT.out hb2 hw.1) (hw.on hb2))
    rw [ptr_some, ptr_some] at HC2
    refine wpAnyH_ready (rs := [11]) (by kernel_rfl) (by simp) ?_
    refine AllReadyH.cons rfl (fun K hK => ?_) AllReadyH.nil
    go_simp
    refine HC2.out.mono ?_
    rintro e w3 ⟨b2, rfl, hN2, hb3⟩
    rw [ptr_some]
    have HN13 := Lib.hid (HN1.out.on hb3)
    replace hb3 := hb2.trans (hb3.mono hb2.size)
    have hs3 := hb3.size
    have HN2 := Lib.hid hN2
    refine hK.out _ _ (HM.out.sides hb3) (fun _ => ?_)
    clear hK K hN2 HC2 hb2 hs2 HN1
    have HC3 := Lib.hid (above_any (.node r p) (.node q a) b1 b2 w3 HN13.out HN2.out (by show (r.n + p.n) + (q.n + a.n) ≤ _; omega) (Sh.tab_below HT.out hb3 hw.1) (hw.on hb3))
    rw [ptr_some, ptr_some] at HC3
    refine wpAnyH_ready (rs := [12]) (by kernel_rfl) (by simp) ?_
    refine AllReadyH.cons rfl (fun K hK => ?_) AllReadyH.nil
    go_simp
    refine HC3.out.mono ?_
    rintro e w4 ⟨b3, rfl, hN3, hb4⟩
    rw [ptr_some]
    replace hb4 := hb3.trans (hb4.mono hb3.size)
    have HN3 := Lib.hid hN3
    have HB4 := Lib.hid hb4
    have hHeld := HM.out.sides hb4
    refine hK.out _ _ hHeld (fun _ => ?_)
    clear hK K hN3 HC3 hb3 hs3 HN13 HN2 hb4
    refine wpAnyH_take (i := 13) (oi := { dst := some 4, op := Op.assign (Operand.tmp 38), type := 57, pos := "node.go:56", after := #[{ on := 12, ground := Ground.data }, { on := 12, ground := Ground.chain }, { on := 0, ground := Ground.phase }, { on := 1, ground := Ground.phase }, { on := 2, ground := Ground.phase }, { on := 3, ground := Ground.phase }, { on := 4, ground := Ground.phase }, { on := 5, ground := Ground.phase }, { on := 6, ground := Ground.phase }, { on := 7, ground := Ground.phase }, { on := 8, ground := Ground.phase }, { on := 9, ground := Ground.phase }, { on := 10, ground := Ground.phase }, { on := 11, ground := Ground.phase }, { on := 12, ground := Ground.phase }], guard := none }) (v := ?_) rfl (by kernel_rfl) (by kernel_rfl) (by kernel_rfl) (fun _ _ _ h => h) (Or.inl ⟨by rfl, ?_⟩) (by assumption) ?_
    rotate_left
    · first | (intro w hSw; (try dsimp only at hSw); go_simp; done) | (intro w hSw; (try dsimp only at hSw); go_simp; with_reducible rfl)
    simp only [Act.put, List.setIfInBounds_toArray, List.set_cons_zero, List.set_cons_succ]
    refine wpAnyH_done (by kernel_rfl) ?_ _
    clear hHeld
    go_wp2_with fail
    go_ret
    exact ⟨b3, rfl, HN3.out, HB4.out⟩
  · have hq : decide (a.h < m.h) = false := by simpa using hlt
    have HG : Hid (leanR r m a = .node (.node r m) a) := Lib.hid (by unfold leanR; rw [if_neg hlt])
    rw [HG.out]
    clear HG hlt
    generalize m.h = mh at *
    generalize a.h = ah at *
    go_enter Tryd.func64, Tryd.ntmps64
    go_wp2_with fail
    go_quiet (fail)
    rename Nat => nq1
    go_wp2_with fail
    go_quiet (fail)
    rename Nat => nq2
    have hbq : Below w.heap.size w ((w.drewN nq1).drewN nq2) := below_drewN (below_drewN (Below.refl _ _) _) _
    go_upto_region 4 with (fail)
    generalize (w.drewN nq1).drewN nq2 = w1 at *
    clear c100 c101 ca cm hq
    have hs1 := hbq.size
    have HC1 := Lib.hid (above_any r m br y w1 (HR.out.on hbq) (HY.out.on hbq) (by omega) (Sh.tab_below HT.out hbq hw.1) (hw.on hbq))
    rw [ptr_some, ptr_some] at HC1
    go_wp2_with fail
    refine HC1.out.mono ?_
    rintro e w2 ⟨b1, rfl, hN1, hb2⟩
    rw [ptr_some]
    replace hb2 := hbq.trans (hb2.mono hbq.size)
    have hs2 := hb2.size
    have HC2 := Lib.hid (above_any (.node r m) a b1 x w2 hN1 (HX.out.on hb2) (by show (r.n + m.n) + a.n ≤ _; omega) (Sh.tab_below HT.out hb2 hw.1) (hw.on hb2))
    rw [ptr_some, ptr_some] at HC2
    have HB2 := Lib.hid hb2
    clear hN1 HC1 hbq hs1 hb2 hs2
    go_wp2_with fail
    refine HC2.out.mono ?_
    rintro e w3 ⟨b2, rfl, hN2, hb3⟩
    rw [ptr_some]
    have HN2 := Lib.hid hN2
    have HB3 := Lib.hid (HB2.out.trans (hb3.mono HB2.out.size))
    clear hN2 hb3 HC2 HB2
    go_wp2_with fail
    go_ret
    exact ⟨b2, rfl, HN2.out, HB3.out⟩
end Go.Proofs.YtehmkkccnadhoaaDoor
namespace Go.Proofs.YtehmkkccnadhoaaDoor
open Go.RowKit
open Tr
variable {G : Nat → Prop}

set_option maxRecDepth 100000 in
set_option maxHeartbeats 1000000 in
theorem bal_any (l r : T) (bl br : Nat) (w : World) (hl : NIn G w w.heap.size l bl) (hr : NIn G w w.heap.size r br) (hn : l.n + r.n ≤ 4294967296) (ht : Sh.Tab w 2) (hw : Room G w) :
    Calls Tryd.prog 43 #[ptr (some bl), ptr (some br)] w (NodePost G (bal l r) w) := by
  have cl := hl.high (Below.refl _ _)
  have cr := hr.high (Below.refl _ _)
  have HL := Lib.hid hl
  have HR := Lib.hid hr
  have HT := Lib.hid ht
  have h1 := T.h_lt l
  have h2 := T.h_lt r
  have i1 : IntKind.i64.wrap ((l.h : Int) + 1) = (l.h : Int) + 1 := IntWalk.i64_in _ (by omega)
  have i2 : IntKind.i64.wrap ((r.h : Int) + 1) = (r.h : Int) + 1 := IntWalk.i64_in _ (by omega)
  clear hl hr ht h1 h2
  rw [ptr_some, ptr_some]
  by_cases ha : r.h + 1 < l.h
  · obtain ⟨a, m, rfl⟩ : ∃ a m, l = .node a m := T.node_of_h (by omega)
    have HG : Hid (bal (.node a m) r = leanL a m r) := Lib.hid (by unfold bal; rw [if_pos ha])
    rw [HG.out]
    have q1 : decide ((r.h : Int) + 1 < ((T.node a m).h : Int)) = true := by simp; omega
    have e0 : (T.node a m).n = a.n + m.n := rfl
    clear ha HG
    generalize (T.node a m).h = ah at *
    generalize r.h = rh at *
    go_enter Tryd.func43, Tryd.ntmps43
    go_wp2_with fail
    go_quiet (fail)
    rename Nat => nq1
    have hbq : Below w.heap.size w (w.drewN nq1) := below_drewN (Below.refl _ _) _
    go_upto_region 2 with (fail)
    generalize w.drewN nq1 = w1 at *
    clear cl cr i1 i2 q1
    have HC1 := Lib.hid (leanL_any a m r bl br w1 (HL.out.on hbq) (HR.out.on hbq) (by omega) (Sh.tab_below HT.out hbq hw.1) (hw.on hbq))
    rw [ptr_some, ptr_some] at HC1
    have HBQ := Lib.hid hbq
    clear hbq
    go_wp2_with fail
    refine HC1.out.mono ?_
    rintro e w2 ⟨b1, rfl, hN1, hb2⟩
    rw [ptr_some]
    have HN1 := Lib.hid hN1
    have HB2 := Lib.hid (HBQ.out.trans (hb2.mono HBQ.out.size))
    clear hN1 hb2 HC1 HBQ
    go_wp2_with fail
    go_ret
    exact ⟨b1, rfl, HN1.out, HB2.out⟩
  · have q1 : decide ((r.h : Int) + 1 < (l.h : Int)) = false := by simp; omega
    by_cases hb : l.h + 1 < r.h
    · obtain ⟨m, d, rfl⟩ : ∃ m d, r = .node m d := T.node_of_h (by omega)
      have HG : Hid (bal l (.node m d) = leanR l m d) := Lib.hid (by unfold bal; rw [if_neg ha, if_pos hb])
      rw [HG.out]
      have q2 : decide ((l.h : Int) + 1 < ((T.node m d).h : Int)) = true := by simp; omega
      have e0 : (T.node m d).n = m.n + d.n := rfl
      clear ha hb HG
      generalize (T.node m d).h = rh at *
      generalize l.h = lh at *
      go_enter Tryd.func43, Tryd.ntmps43
      go_wp2_with fail
      go_quiet (fail)
      rename Nat => nq1
      go_wp2_with fail
      go_quiet (fail)
      rename Nat => nq2
      have hbq : Below w.heap.size w ((w.drewN nq1).drewN nq2) := below_drewN (below_drewN (Below.refl _ _) _) _
      go_upto_region 4 with (fail)
      generalize (w.drewN nq1).drewN nq2 = w1 at *
      clear cl cr i1 i2 q1 q2
      have HC1 := Lib.hid (leanR_any l m d bl br w1 (HL.out.on hbq) (HR.out.on hbq) (by omega) (Sh.tab_below HT.out hbq hw.1) (hw.on hbq))
      rw [ptr_some, ptr_some] at HC1
      have HBQ := Lib.hid hbq
      clear hbq
      go_wp2_with fail
      refine HC1.out.mono ?_
      rintro e w2 ⟨b1, rfl, hN1, hb2⟩
      rw [ptr_some]
      have HN1 := Lib.hid hN1
      have HB2 := Lib.hid (HBQ.out.trans (hb2.mono HBQ.out.size))
      clear hN1 hb2 HC1 HBQ
      go_wp2_with fail
      go_ret
      exact ⟨b1, rfl, HN1.out, HB2.out⟩
    · have q2 : decide ((l.h : Int) + 1 < (r.h : Int)) = false := by simp; omega
      have HG : Hid (bal l r = .node l r) := Lib.hid (by unfold bal; rw [if_neg ha, if_neg hb])
      rw [HG.out]
      clear ha hb HG
      generalize l.h = lh at *
      generalize r.h = rh at *
      go_enter Tryd.func43, Tryd.ntmps43
      go_wp2_with fail
      go_quiet (fail)
      rename Nat => nq1
      go_wp2_with fail
      go_quiet (fail)
      rename Nat => nq2
      have hbq : Below w.heap.size w ((w.drewN nq1).drewN nq2) := below_drewN (below_drewN (Below.refl _ _) _) _
      go_upto_region 5 with (fail)
      generalize (w.drewN nq1).drewN nq2 = w1 at *
      clear cl cr i1 i2 q1 q2
      have HC1 := Lib.hid (above_any l r bl br w1 (HL.out.on hbq) (HR.out.on hbq) (by omega) (Sh.tab_below HT.out hbq hw.1) (hw.on hbq))
      rw [ptr_some, ptr_some] at HC1
      have HBQ := Lib.hid hbq
      clear hbq
      go_wp2_with fail
      refine HC1.out.mono ?_
      rintro e w2 ⟨b1, rfl, hN1, hb2⟩
      rw [ptr_some]
      have HN1 := Lib.hid hN1
      have HB2 := Lib.hid (HBQ.out.trans (hb2.mono HBQ.out.size))
      clear hN1 hb2 HC1 HBQ
      go_wp2_with fail
      go_ret
      exact ⟨b1, rfl, HN1.out, HB2.out⟩
end Go.Proofs.YtehmkkccnadhoaaDoor
namespace Go.Proofs.YtehmkkccnadhoaaDoor
open Go.RowKit
open Tr
variable {G : Nat → Prop}

theorem put_n (k v : List UInt8) : ∀ t : T, (t.put k v).n ≤ t.n + 1
  | .leaf k' v' => by
    show (beside (.leaf k' v') k v).n ≤ 2
    unfold beside
    split
    · exact Nat.le_refl _
    · split
      · exact Nat.le_refl _
      · show 1 ≤ 2; omega
  | .node l r => by
    have h1 := put_n k v l
    have h2 := put_n k v r
    show (if lt k r.least then bal (l.put k v) r else bal l (r.put k v)).n ≤ l.n + r.n + 1
    split
    · rw [bal_n]; omega
    · rw [bal_n]; omega

theorem NIn.keyAt {w w' : World} {B b : Nat} {t : T} (h : NIn G w B t b) (hb : Below B w w') : ∃ A n c, w'.cell? ⟨b, 0, none⟩ = some (.slice A n c) ∧ Rd w' B A n t.key := by
  obtain ⟨A, n, c, A', n', c', x, y, hh⟩ := (h.below hb (Nat.le_refl _)).has
  exact ⟨A, n, c, hh.cells.1, hh.key⟩

set_option maxRecDepth 100000 in
set_option maxHeartbeats 1000000 in
theorem beside_any (k' v' k v : List UInt8) (b bl : Nat) (w : World) (hl : NIn G w w.heap.size (.leaf k' v') b) (hr : NIn G w w.heap.size (.leaf k v) bl) (ht : Sh.Tab w 2) (hw : Room G w) :
    Calls Tryd.prog 41 #[ptr (some b), ptr (some bl)] w (NodePost G (beside (.leaf k' v') k v) w) := by
  obtain ⟨A, n, c, c0, hk⟩ := hl.keyAt (Below.refl _ _).drew
  obtain ⟨A', n', c', c0', hk'⟩ := hr.keyAt (Below.refl _ _).drew
  change w.cell? _ = _ at c0 c0'
  have HL := Lib.hid hl
  have HR := Lib.hid hr
  have HT := Lib.hid ht
  have HK := Lib.hid (compare_any A' A n' c' n c _ _ k k' w.drew hk' hk)
  have HU : Hid (beside (.leaf k' v') k v = if lt k k' then .node (.leaf k v) (.leaf k' v') else if lt k' k then .node (.leaf k' v') (.leaf k v) else .leaf k v) := Lib.hid rfl
  clear hl hr ht hk hk'
  rw [ptr_some, ptr_some]
  obtain ⟨C, hC⟩ : ∃ C, Lib.compareBytes k k' = C := ⟨_, rfl⟩
  rw [hC] at HK
  have HC := Lib.hid hC
  clear hC
  have hb1 : Below w.heap.size w w.drew := (Below.refl _ _).drew
  go_enter Tryd.func41, Tryd.ntmps41
  go_upto_region 1 with (fail)
  have hS0 : w.drew.cell? ⟨b, 0, none⟩ = some (.slice A n c) ∧ w.drew.cell? ⟨bl, 0, none⟩ = some (.slice A' n' c') := ⟨c0, c0'⟩
  refine wp_region_held_drew (S := fun w' => w'.cell? ⟨b, 0, none⟩ = some (.slice A n c) ∧ w'.cell? ⟨bl, 0, none⟩ = some (.slice A' n' c')) (by kernel_rfl) hS0 (fun hHeld => ?_)
  refine wpAnyH_take (i := 0) (oi := { dst := some 6, op := Op.move (Operand.tmp 1), type := 57, pos := "node.go:74", after := #[], guard := none }) (v := ?_) rfl (by kernel_rfl) (by kernel_rfl) (by kernel_rfl) (fun _ _ _ h => h) (Or.inl ⟨by rfl, ?_⟩) (by assumption) ?_
  rotate_left
  · first | (intro w hSw; (try dsimp only at hSw); go_simp; done) | (intro w hSw; (try dsimp only at hSw); go_simp; with_reducible rfl)
  simp only [Act.put, List.setIfInBounds_toArray, List.set_cons_zero, List.set_cons_succ]
  refine wpAnyH_take (i := 1) (oi := { dst := some 7, op := Op.nilCheck (Operand.tmp 6), type := 0, pos := "node.go:74", after := #[{ on := 0, ground := Ground.data }], guard := none }) (v := ?_) rfl (by kernel_rfl) (by kernel_rfl) (by kernel_rfl) (fun _ _ _ h => h) (Or.inl ⟨by rfl, ?_⟩) (by assumption) ?_
  rotate_left
  · first | (intro w hSw; (try dsimp only at hSw); go_simp; done) | (intro w hSw; (try dsimp only at hSw); go_simp; with_reducible rfl)
  simp only [Act.put, List.setIfInBounds_toArray, List.set_cons_zero, List.set_cons_succ]
  refine wpAnyH_take (i := 2) (oi := { dst := some 8, op := Op.fieldAddr 69 (Operand.tmp 7) 0, type := 0, pos := "node.go:74", after := #[{ on := 1, ground := Ground.data }], guard := none }) (v := ?_) rfl (by kernel_rfl) (by kernel_rfl) (by kernel_rfl) (fun _ _ _ h => h) (Or.inl ⟨by rfl, ?_⟩) (by assumption) ?_
  rotate_left
  · first | (intro w hSw; (try dsimp only at hSw); go_simp; done) | (intro w hSw; (try dsimp only at hSw); go_simp; with_reducible rfl)
  simp only [Act.put, List.setIfInBounds_toArray, List.set_cons_zero, List.set_cons_succ]
  refine wpAnyH_take (i := 3) (oi := { dst := some 9, op := Op.fieldAddr 67 (Operand.tmp 8) 0, type := 0, pos := "node.go:74", after := #[{ on := 2, ground := Ground.data }], guard := none }) (v := ?_) rfl (by kernel_rfl) (by kernel_rfl) (by kernel_rfl) (fun _ _ _ h => h) (Or.inl ⟨by rfl, ?_⟩) (by assumption) ?_
  rotate_left
  · first | (intro w hSw; (try dsimp only at hSw); go_simp; done) | (intro w hSw; (try dsimp only at hSw); go_simp; with_reducible rfl)
  simp only [Act.put, List.setIfInBounds_toArray, List.set_cons_zero, List.set_cons_succ]
  refine wpAnyH_take (i := 4) (oi := { dst := some 10, op := Op.load 22 (Operand.tmp 9), type := 22, pos := "node.go:74", after := #[{ on := 3, ground := Ground.data }], guard := none }) (v := ?_) rfl (by kernel_rfl) (by kernel_rfl) (by kernel_rfl) (fun _ _ _ h => h) (Or.inl ⟨by rfl, ?_⟩) (by assumption) ?_
  rotate_left
  · first | (intro w hSw; (try dsimp only at hSw); go_simp; done) | (intro w hSw; (try dsimp only at hSw); go_simp; with_reducible rfl)
  simp only [Act.put, List.setIfInBounds_toArray, List.set_cons_zero, List.set_cons_succ]
  refine wpAnyH_take (i := 5) (oi := { dst := some 11, op := Op.move (Operand.tmp 0), type := 57, pos := "node.go:74", after := #[], guard := none }) (v := ?_) rfl (by kernel_rfl) (by kernel_rfl) (by kernel_rfl) (fun _ _ _ h => h) (Or.inl ⟨by rfl, ?_⟩) (by assumption) ?_
  rotate_left
  · first | (intro w hSw; (try dsimp only at hSw); go_simp; done) | (intro w hSw; (try dsimp only at hSw); go_simp; with_reducible rfl)
  simp only [Act.put, List.setIfInBounds_toArray, List.set_cons_zero, List.set_cons_succ]
  refine wpAnyH_take (i := 6) (oi := { dst := some 12, op := Op.nilCheck (Operand.tmp 11), type := 0, pos := "node.go:74", after := #[{ on := 5, ground := Ground.data }], guard := none }) (v := ?_) rfl (by kernel_rfl) (by kernel_rfl) (by kernel_rfl) (fun _ _ _ h => h) (Or.inl ⟨by rfl, ?_⟩) (by assumption) ?_
  rotate_left
  · first | (intro w hSw; (try dsimp only at hSw); go_simp; done) | (intro w hSw; (try dsimp only at hSw); go_simp; with_reducible rfl)
  simp only [Act.put, List.setIfInBounds_toArray, List.set_cons_zero, List.set_cons_succ]
  refine wpAnyH_take (i := 7) (oi := { dst := some 13, op := Op.fieldAddr 69 (Operand.tmp 12) 0, type := 0, pos := "node.go:74", after := #[{ on := 6, ground := Ground.data }], guard := none }) (v := ?_) rfl (by kernel_rfl) (by kernel_rfl) (by kernel_rfl) (fun _ _ _ h => h) (Or.inl ⟨by rfl, ?_⟩) (by assumption) ?_
  rotate_left
  · first | (intro w hSw; (try dsimp only at hSw); go_simp; done) | (intro w hSw; (try dsimp only at hSw); go_simp; with_reducible rfl)
  simp only [Act.put, List.setIfInBounds_toArray, List.set_cons_zero, List.set_cons_succ]
  refine wpAnyH_take (i := 8) (oi := { dst := some 14, op := Op.fieldAddr 67 (Operand.tmp 13) 0, type := 0, pos := "node.go:74", after := #[{ on := 7, ground := Ground.data }], guard := none }) (v := ?_) rfl (by kernel_rfl) (by kernel_rfl) (by kernel_rfl) (fun _ _ _ h => h) (Or.inl ⟨by rfl, ?_⟩) (by assumption) ?_
  rotate_left
  · first | (intro w hSw; (try dsimp only at hSw); go_simp; done) | (intro w hSw; (try dsimp only at hSw); go_simp; with_reducible rfl)
  simp only [Act.put, List.setIfInBounds_toArray, List.set_cons_zero, List.set_cons_succ]
  refine wpAnyH_take (i := 9) (oi := { dst := some 15, op := Op.load 22 (Operand.tmp 14), type := 22, pos := "node.go:74", after := #[{ on := 8, ground := Ground.data }], guard := none }) (v := ?_) rfl (by kernel_rfl) (by kernel_rfl) (by kernel_rfl) (fun _ _ _ h => h) (Or.inl ⟨by rfl, ?_⟩) (by assumption) ?_
  rotate_left
  · first | (intro w hSw; (try dsimp only at hSw); go_simp; done) | (intro w hSw; (try dsimp only at hSw); go_simp; with_reducible rfl)
  simp only [Act.put, List.setIfInBounds_toArray, List.set_cons_zero, List.set_cons_succ]
  generalize w.drew = w1 at *
  clear c0 c0'
  refine wpAnyH_ready (rs := [10]) (by kernel_rfl) (by simp) ?_
  refine AllReadyH.cons rfl (fun K hK => ?_) AllReadyH.nil
  go_simp
  refine HK.out.mono ?_
  rintro e w2 ⟨rfl, rfl⟩
  refine hK.out _ _ hS0 (fun _ => ?_)
  clear hK K HK
  refine wpAnyH_take (i := 11) (oi := { dst := some 5, op := Op.assign (Operand.tmp 16), type := 3, pos := "node.go:74", after := #[{ on := 10, ground := Ground.data }, { on := 10, ground := Ground.chain }, { on := 0, ground := Ground.phase }, { on := 1, ground := Ground.phase }, { on := 2, ground := Ground.phase }, { on := 3, ground := Ground.phase }, { on := 4, ground := Ground.phase }, { on := 5, ground := Ground.phase }, { on := 6, ground := Ground.phase }, { on := 7, ground := Ground.phase }, { on := 8, ground := Ground.phase }, { on := 9, ground := Ground.phase }, { on := 10, ground := Ground.phase }], guard := none }) (v := ?_) rfl (by kernel_rfl) (by kernel_rfl) (by kernel_rfl) (fun _ _ _ h => h) (Or.inl ⟨by rfl, ?_⟩) (by assumption) ?_
  rotate_left
  · first | (intro w hSw; (try dsimp only at hSw); go_simp; done) | (intro w hSw; (try dsimp only at hSw); go_simp; with_reducible rfl)
  simp only [Act.put, List.setIfInBounds_toArray, List.set_cons_zero, List.set_cons_succ]
  refine wpAnyH_done (by kernel_rfl) ?_ _
  clear hS0 hHeld
  by_cases h1 : lt k k' = true
  · have hc : C = -1 := by rw [← HC.out]; exact cmp_lt _ _ h1
    subst hc
    have HG : Hid (beside (.leaf k' v') k v = .node (.leaf k v) (.leaf k' v')) := Lib.hid (by rw [HU.out, if_pos h1])
    clear HC h1 HU
    have HC1 := Lib.hid (above_any (.leaf k v) (.leaf k' v') bl b w1 (HR.out.on hb1) (HL.out.on hb1) (by show 1 + 1 ≤ _; omega) (Sh.tab_below HT.out hb1 hw.1) (hw.on hb1))
    rw [ptr_some, ptr_some] at HC1
    have HB1 := Lib.hid hb1
    clear hb1
    go_wp2_with fail
    refine HC1.out.mono ?_
    rintro e w2 ⟨b1, rfl, hN1, hb2⟩
    rw [ptr_some]
    have HN1 := Lib.hid hN1
    have HB2 := Lib.hid (HB1.out.trans (hb2.mono HB1.out.size))
    clear hN1 hb2 HC1 HB1
    go_wp2_with fail
    go_ret
    exact ⟨b1, rfl, by rw [HG.out]; exact HN1.out, HB2.out⟩
  · by_cases h2 : lt k' k = true
    · have hc : C = 1 := by rw [← HC.out]; exact cmp_gt _ _ h2
      subst hc
      have HG : Hid (beside (.leaf k' v') k v = .node (.leaf k' v') (.leaf k v)) := Lib.hid (by rw [HU.out, if_neg h1, if_pos h2])
      clear HC h1 h2 HU
      have HC1 := Lib.hid (above_any (.leaf k' v') (.leaf k v) b bl w1 (HL.out.on hb1) (HR.out.on hb1) (by show 1 + 1 ≤ _; omega) (Sh.tab_below HT.out hb1 hw.1) (hw.on hb1))
      rw [ptr_some, ptr_some] at HC1
      have HB1 := Lib.hid hb1
      clear hb1
      go_wp2_with fail
      refine HC1.out.mono ?_
      rintro e w2 ⟨b1, rfl, hN1, hb2⟩
      rw [ptr_some]
      have HN1 := Lib.hid hN1
      have HB2 := Lib.hid (HB1.out.trans (hb2.mono HB1.out.size))
      clear hN1 hb2 HC1 HB1
      go_wp2_with fail
      go_ret
      exact ⟨b1, rfl, by rw [HG.out]; exact HN1.out, HB2.out⟩
    · have hc : C = 0 := by
        rw [← HC.out, lt_tri k k' (by simpa using h1) (by simpa using h2)]
        exact cmp_self _
      subst hc
      have HG : Hid (beside (.leaf k' v') k v = .leaf k v) := Lib.hid (by rw [HU.out, if_neg h1, if_neg h2])
      clear HC h1 h2 HU
      have HB1 := Lib.hid hb1
      clear hb1
      go_wp2_with fail
      go_ret
      exact ⟨bl, rfl, by rw [HG.out]; exact HR.out.on HB1.out, HB1.out⟩

set_option maxRecDepth 100000 in
set_option maxHeartbeats 1000000 in
theorem with_any (k v : List UInt8) (bl : Nat) : ∀ (t : T) (b : Nat) (w : World) (_ : NIn G w w.heap.size t b) (_ : NIn G w w.heap.size (.leaf k v) bl) (_ : t.n + 1 ≤ 4294967296) (_ : Sh.Tab w 2) (_ : Room G w),
    Calls Tryd.prog 20 #[ptr (some b), ptr (some bl)] w (NodePost G (t.put k v) w)
  | .leaf k' v', b, w, hl, hr, _, ht, hw => by
    have HC1 := Lib.hid (beside_any k' v' k v b bl w hl hr ht hw)
    obtain ⟨A, n, c, A', n', c', hh⟩ := hl
    have HI := Lib.hid (isLeaf_yes hh rfl)
    clear hh hr ht
    rw [ptr_some] at HI
    rw [ptr_some, ptr_some] at HC1 ⊢
    go_enter Tryd.func20, Tryd.ntmps20
    go_wp2_with fail
    refine HI.out.mono ?_
    rintro e w1 ⟨rfl, rfl⟩
    go_wp2_with fail
    refine HC1.out.mono ?_
    rintro e w2 ⟨b1, rfl, hN1, hb2⟩
    rw [ptr_some]
    have HN1 := Lib.hid hN1
    have HB2 := Lib.hid hb2
    clear hN1 hb2 HC1
    go_wp2_with fail
    go_ret
    exact ⟨b1, rfl, HN1.out, HB2.out⟩
  | .node l r, b, w, hl, hr, hn, ht, hw => by
    obtain ⟨A, n, c, A', n', c', x, y, hh, hx, hy⟩ := hl
    obtain ⟨Ak, nk, ck, c0, hk⟩ := hr.keyAt (Below.refl _ _)
    have HI := Lib.hid (isLeaf_no hh (h_ne l r))
    have HRT := Lib.hid (fun R => isRight_any hh Ak nk ck w.heap.size k hk R)
    rw [ptr_some] at HI HRT
    have e0 : (T.node l r).n = l.n + r.n := rfl
    have HH := Lib.hid hh
    have HX := Lib.hid hx
    have HY := Lib.hid hy
    have HK := Lib.hid hr
    have HT := Lib.hid ht
    have p1 := T.n_pos l
    have p2 := T.n_pos r
    clear hh hx hy hr hk ht
    have HU : Hid ((T.node l r).put k v = if lt k r.least then bal (l.put k v) r else bal l (r.put k v)) := Lib.hid rfl
    rw [ptr_some, ptr_some]
    by_cases hlt : lt k r.least = true
    · rw [HU.out, if_pos hlt]
      have HR := Lib.hid (HRT.out false (by rw [show (T.node l r).key = r.least from rfl, hlt]; rfl))
      clear HRT HU hlt
      go_enter Tryd.func20, Tryd.ntmps20
      go_wp2_with fail
      refine HI.out.mono ?_
      rintro e w1 ⟨rfl, rfl⟩
      go_wp2_with fail
      refine HR.out.mono ?_
      rintro e w1 ⟨rfl, rfl⟩
      go_upto_region 5 with (fail)
      have hb1 : Below w.heap.size w w.drew := (Below.refl _ _).drew
      have hS0 : w.drew.cell? ⟨b, 100, none⟩ = some (.pointer (some ⟨x, 0, none⟩)) ∧ w.drew.cell? ⟨b, 101, none⟩ = some (.pointer (some ⟨y, 0, none⟩)) := HH.out.sides hb1
      refine wp_region_held_drew (S := fun w' => w'.cell? ⟨b, 100, none⟩ = some (.pointer (some ⟨x, 0, none⟩)) ∧ w'.cell? ⟨b, 101, none⟩ = some (.pointer (some ⟨y, 0, none⟩))) (by kernel_rfl) hS0 (fun hHeld => ?_)
      clear c0
      refine wpAnyH_take (i := 0) (oi := { dst := some 28, op := Op.move (Operand.tmp 0), type := 57, pos := "node.go:69", after := #[], guard := none }) (v := ?_) rfl (by kernel_rfl) (by kernel_rfl) (by kernel_rfl) (fun _ _ _ h => h) (Or.inl ⟨by rfl, ?_⟩) (by assumption) ?_
      rotate_left
      · first | (intro w hSw; (try dsimp only at hSw); go_simp; done) | (intro w hSw; (try dsimp only at hSw); go_simp; with_reducible rfl)
      simp only [Act.put, List.setIfInBounds_toArray, List.set_cons_zero, List.set_cons_succ]
      refine wpAnyH_take (i := 1) (oi := { dst := some 29, op := Op.nilCheck (Operand.tmp 28), type := 0, pos := "node.go:69", after := #[{ on := 0, ground := Ground.data }], guard := none }) (v := ?_) rfl (by kernel_rfl) (by kernel_rfl) (by kernel_rfl) (fun _ _ _ h => h) (Or.inl ⟨by rfl, ?_⟩) (by assumption) ?_
      rotate_left
      · first | (intro w hSw; (try dsimp only at hSw); go_simp; done) | (intro w hSw; (try dsimp only at hSw); go_simp; with_reducible rfl)
      simp only [Act.put, List.setIfInBounds_toArray, List.set_cons_zero, List.set_cons_succ]
      refine wpAnyH_take (i := 2) (oi := { dst := some 30, op := Op.fieldAddr 69 (Operand.tmp 29) 2, type := 0, pos := "node.go:69", after := #[{ on := 1, ground := Ground.data }], guard := none }) (v := ?_) rfl (by kernel_rfl) (by kernel_rfl) (by kernel_rfl) (fun _ _ _ h => h) (Or.inl ⟨by rfl, ?_⟩) (by assumption) ?_
      rotate_left
      · first | (intro w hSw; (try dsimp only at hSw); go_simp; done) | (intro w hSw; (try dsimp only at hSw); go_simp; with_reducible rfl)
      simp only [Act.put, List.setIfInBounds_toArray, List.set_cons_zero, List.set_cons_succ]
      refine wpAnyH_take (i := 3) (oi := { dst := some 31, op := Op.load 57 (Operand.tmp 30), type := 57, pos := "node.go:69", after := #[{ on := 2, ground := Ground.data }], guard := none }) (v := ?_) rfl (by kernel_rfl) (by kernel_rfl) (by kernel_rfl) (fun _ _ _ h => h) (Or.inl ⟨by rfl, ?_⟩) (by assumption) ?_
      rotate_left
      · first | (intro w hSw; (try dsimp only at hSw); go_simp; done) | (intro w hSw; (try dsimp only at hSw); go_simp; with_reducible rfl)
      simp only [Act.put, List.setIfInBounds_toArray, List.set_cons_zero, List.set_cons_succ]
      refine wpAnyH_take (i := 4) (oi := { dst := some 32, op := Op.move (Operand.tmp 1), type := 57, pos := "node.go:69", after := #[], guard := none }) (v := ?_) rfl (by kernel_rfl) (by kernel_rfl) (by kernel_rfl) (fun _ _ _ h => h) (Or.inl ⟨by rfl, ?_⟩) (by assumption) ?_
      rotate_left
      · first | (intro w hSw; (try dsimp only at hSw); go_simp; done) | (intro w hSw; (try dsimp only at hSw); go_simp; with_reducible rfl)
      simp only [Act.put, List.setIfInBounds_toArray, List.set_cons_zero, List.set_cons_succ]
      refine wpAnyH_take (i := 6) (oi := { dst := some 34, op := Op.move (Operand.tmp 0), type := 57, pos := "node.go:69", after := #[], guard := none }) (v := ?_) rfl (by kernel_rfl) (by kernel_rfl) (by kernel_rfl) (fun _ _ _ h => h) (Or.inl ⟨by rfl, ?_⟩) (by assumption) ?_
      rotate_left
      · first | (intro w hSw; (try dsimp only at hSw); go_simp; done) | (intro w hSw; (try dsimp only at hSw); go_simp; with_reducible rfl)
      simp only [Act.put, List.setIfInBounds_toArray, List.set_cons_zero, List.set_cons_succ]
      refine wpAnyH_take (i := 7) (oi := { dst := some 35, op := Op.nilCheck (Operand.tmp 34), type := 0, pos := "node.go:69", after := #[{ on := 6, ground := Ground.data }], guard := none }) (v := ?_) rfl (by kernel_rfl) (by kernel_rfl) (by kernel_rfl) (fun _ _ _ h => h) (Or.inl ⟨by rfl, ?_⟩) (by assumption) ?_
      rotate_left
      · first | (intro w hSw; (try dsimp only at hSw); go_simp; done) | (intro w hSw; (try dsimp only at hSw); go_simp; with_reducible rfl)
      simp only [Act.put, List.setIfInBounds_toArray, List.set_cons_zero, List.set_cons_succ]
      refine wpAnyH_take (i := 8) (oi := { dst := some 36, op := Op.fieldAddr 69 (Operand.tmp 35) 3, type := 0, pos := "node.go:69", after := #[{ on := 7, ground := Ground.data }], guard := none }) (v := ?_) rfl (by kernel_rfl) (by kernel_rfl) (by kernel_rfl) (fun _ _ _ h => h) (Or.inl ⟨by rfl, ?_⟩) (by assumption) ?_
      rotate_left
      · first | (intro w hSw; (try dsimp only at hSw); go_simp; done) | (intro w hSw; (try dsimp only at hSw); go_simp; with_reducible rfl)
      simp only [Act.put, List.setIfInBounds_toArray, List.set_cons_zero, List.set_cons_succ]
      refine wpAnyH_take (i := 9) (oi := { dst := some 37, op := Op.load 57 (Operand.tmp 36), type := 57, pos := "node.go:69", after := #[{ on := 8, ground := Ground.data }], guard := none }) (v := ?_) rfl (by kernel_rfl) (by kernel_rfl) (by kernel_rfl) (fun _ _ _ h => h) (Or.inl ⟨by rfl, ?_⟩) (by assumption) ?_
      rotate_left
      · first | (intro w hSw; (try dsimp only at hSw); go_simp; done) | (intro w hSw; (try dsimp only at hSw); go_simp; with_reducible rfl)
      simp only [Act.put, List.setIfInBounds_toArray, List.set_cons_zero, List.set_cons_succ]
      clear hS0 hHeld HR HI
      generalize w.drew = w1 at *
      have HC1 := Lib.hid (with_any k v bl l x w1 (HX.out.on hb1) (HK.out.on hb1) (by omega) (Sh.tab_below HT.out hb1 hw.1) (hw.on hb1))
      rw [ptr_some, ptr_some] at HC1
      refine wpAnyH_ready (rs := [5]) (by kernel_rfl) (by simp) ?_
      refine AllReadyH.cons rfl (fun K hK => ?_) AllReadyH.nil
      go_simp
      refine HC1.out.mono ?_
      rintro e w2 ⟨b1, rfl, hN1, hb2⟩
      rw [ptr_some]
      replace hb2 := hb1.trans (hb2.mono hb1.size)
      refine hK.out _ _ (HH.out.sides hb2) (fun _ => ?_)
      clear hK K HC1 hb1
      have HC2 := Lib.hid (bal_any (l.put k v) r b1 y w2 hN1 (HY.out.on hb2) (by have := put_n k v l; omega) (Sh.tab_below HT.out hb2 hw.1) (hw.on hb2))
      rw [ptr_some, ptr_some] at HC2
      clear hN1
      refine wpAnyH_ready (rs := [10]) (by kernel_rfl) (by simp) ?_
      refine AllReadyH.cons rfl (fun K hK => ?_) AllReadyH.nil
      go_simp
      refine HC2.out.mono ?_
      rintro e w3 ⟨b2, rfl, hN2, hb3⟩
      rw [ptr_some]
      replace hb3 := hb2.trans (hb3.mono hb2.size)
      have hHeld := HH.out.sides hb3
      refine hK.out _ _ hHeld (fun _ => ?_)
      clear hK K HC2 hb2
      have HN2 := Lib.hid hN2
      have HB3 := Lib.hid hb3
      clear hN2 hb3
      refine wpAnyH_take (i := 11) (oi := { dst := some 4, op := Op.assign (Operand.tmp 38), type := 57, pos := "node.go:69", after := #[{ on := 10, ground := Ground.data }, { on := 10, ground := Ground.chain }, { on := 0, ground := Ground.phase }, { on := 1, ground := Ground.phase }, { on := 2, ground := Ground.phase }, { on := 3, ground := Ground.phase }, { on := 4, ground := Ground.phase }, { on := 5, ground := Ground.phase }, { on := 6, ground := Ground.phase }, { on := 7, ground := Ground.phase }, { on := 8, ground := Ground.phase }, { on := 9, ground := Ground.phase }, { on := 10, ground := Ground.phase }], guard := none }) (v := ?_) rfl (by kernel_rfl) (by kernel_rfl) (by kernel_rfl) (fun _ _ _ h => h) (Or.inl ⟨by rfl, ?_⟩) (by assumption) ?_
      rotate_left
      · first | (intro w hSw; (try dsimp only at hSw); go_simp; done) | (intro w hSw; (try dsimp only at hSw); go_simp; with_reducible rfl)
      simp only [Act.put, List.setIfInBounds_toArray, List.set_cons_zero, List.set_cons_succ]
      refine wpAnyH_done (by kernel_rfl) ?_ _
      clear hHeld
      go_wp2_with fail
      go_ret
      exact ⟨b2, rfl, HN2.out, HB3.out⟩
    · rw [HU.out, if_neg hlt]
      have HR := Lib.hid (HRT.out true (by rw [show (T.node l r).key = r.least from rfl]; simpa using hlt))
      clear HRT HU hlt
      go_enter Tryd.func20, Tryd.ntmps20
      go_wp2_with fail
      refine HI.out.mono ?_
      rintro e w1 ⟨rfl, rfl⟩
      go_wp2_with fail
      refine HR.out.mono ?_
      rintro e w1 ⟨rfl, rfl⟩
      go_upto_region 4 with (fail)
      have hb1 : Below w.heap.size w w.drew := (Below.refl _ _).drew
      have hS0 : w.drew.cell? ⟨b, 100, none⟩ = some (.pointer (some ⟨x, 0, none⟩)) ∧ w.drew.cell? ⟨b, 101, none⟩ = some (.pointer (some ⟨y, 0, none⟩)) := HH.out.sides hb1
      refine wp_region_held_drew (S := fun w' => w'.cell? ⟨b, 100, none⟩ = some (.pointer (some ⟨x, 0, none⟩)) ∧ w'.cell? ⟨b, 101, none⟩ = some (.pointer (some ⟨y, 0, none⟩))) (by kernel_rfl) hS0 (fun hHeld => ?_)
      clear c0
      refine wpAnyH_take (i := 0) (oi := { dst := some 17, op := Op.move (Operand.tmp 0), type := 57, pos := "node.go:67", after := #[], guard := none }) (v := ?_) rfl (by kernel_rfl) (by kernel_rfl) (by kernel_rfl) (fun _ _ _ h => h) (Or.inl ⟨by rfl, ?_⟩) (by assumption) ?_
      rotate_left
      · first | (intro w hSw; (try dsimp only at hSw); go_simp; done) | (intro w hSw; (try dsimp only at hSw); go_simp; with_reducible rfl)
      simp only [Act.put, List.setIfInBounds_toArray, List.set_cons_zero, List.set_cons_succ]
      refine wpAnyH_take (i := 1) (oi := { dst := some 18, op := Op.nilCheck (Operand.tmp 17), type := 0, pos := "node.go:67", after := #[{ on := 0, ground := Ground.data }], guard := none }) (v := ?_) rfl (by kernel_rfl) (by kernel_rfl) (by kernel_rfl) (fun _ _ _ h => h) (Or.inl ⟨by rfl, ?_⟩) (by assumption) ?_
      rotate_left
      · first | (intro w hSw; (try dsimp only at hSw); go_simp; done) | (intro w hSw; (try dsimp only at hSw); go_simp; with_reducible rfl)
      simp only [Act.put, List.setIfInBounds_toArray, List.set_cons_zero, List.set_cons_succ]
      refine wpAnyH_take (i := 2) (oi := { dst := some 19, op := Op.fieldAddr 69 (Operand.tmp 18) 2, type := 0, pos := "node.go:67", after := #[{ on := 1, ground := Ground.data }], guard := none }) (v := ?_) rfl (by kernel_rfl) (by kernel_rfl) (by kernel_rfl) (fun _ _ _ h => h) (Or.inl ⟨by rfl, ?_⟩) (by assumption) ?_
      rotate_left
      · first | (intro w hSw; (try dsimp only at hSw); go_simp; done) | (intro w hSw; (try dsimp only at hSw); go_simp; with_reducible rfl)
      simp only [Act.put, List.setIfInBounds_toArray, List.set_cons_zero, List.set_cons_succ]
      refine wpAnyH_take (i := 3) (oi := { dst := some 20, op := Op.load 57 (Operand.tmp 19), type := 57, pos := "node.go:67", after := #[{ on := 2, ground := Ground.data }], guard := none }) (v := ?_) rfl (by kernel_rfl) (by kernel_rfl) (by kernel_rfl) (fun _ _ _ h => h) (Or.inl ⟨by rfl, ?_⟩) (by assumption) ?_
      rotate_left
      · first | (intro w hSw; (try dsimp only at hSw); go_simp; done) | (intro w hSw; (try dsimp only at hSw); go_simp; with_reducible rfl)
      simp only [Act.put, List.setIfInBounds_toArray, List.set_cons_zero, List.set_cons_succ]
      refine wpAnyH_take (i := 4) (oi := { dst := some 21, op := Op.move (Operand.tmp 0), type := 57, pos := "node.go:67", after := #[], guard := none }) (v := ?_) rfl (by kernel_rfl) (by kernel_rfl) (by kernel_rfl) (fun _ _ _ h => h) (Or.inl ⟨by rfl, ?_⟩) (by assumption) ?_
      rotate_left
      · first | (intro w hSw; (try dsimp only at hSw); go_simp; done) | (intro w hSw; (try dsimp only at hSw); go_simp; with_reducible rfl)
      simp only [Act.put, List.setIfInBounds_toArray, List.set_cons_zero, List.set_cons_succ]
      refine wpAnyH_take (i := 5) (oi := { dst := some 22, op := Op.nilCheck (Operand.tmp 21), type := 0, pos := "node.go:67", after := #[{ on := 4, ground := Ground.data }], guard := none }) (v := ?_) rfl (by kernel_rfl) (by kernel_rfl) (by kernel_rfl) (fun _ _ _ h => h) (Or.inl ⟨by rfl, ?_⟩) (by assumption) ?_
      rotate_left
      · first | (intro w hSw; (try dsimp only at hSw); go_simp; done) | (intro w hSw; (try dsimp only at hSw); go_simp; with_reducible rfl)
      simp only [Act.put, List.setIfInBounds_toArray, List.set_cons_zero, List.set_cons_succ]
      refine wpAnyH_take (i := 6) (oi := { dst := some 23, op := Op.fieldAddr 69 (Operand.tmp 22) 3, type := 0, pos := "node.go:67", after := #[{ on := 5, ground := Ground.data }], guard := none }) (v := ?_) rfl (by kernel_rfl) (by kernel_rfl) (by kernel_rfl) (fun _ _ _ h => h) (Or.inl ⟨by rfl, ?_⟩) (by assumption) ?_
      rotate_left
      · first | (intro w hSw; (try dsimp only at hSw); go_simp; done) | (intro w hSw; (try dsimp only at hSw); go_simp; with_reducible rfl)
      simp only [Act.put, List.setIfInBounds_toArray, List.set_cons_zero, List.set_cons_succ]
      refine wpAnyH_take (i := 7) (oi := { dst := some 24, op := Op.load 57 (Operand.tmp 23), type := 57, pos := "node.go:67", after := #[{ on := 6, ground := Ground.data }], guard := none }) (v := ?_) rfl (by kernel_rfl) (by kernel_rfl) (by kernel_rfl) (fun _ _ _ h => h) (Or.inl ⟨by rfl, ?_⟩) (by assumption) ?_
      rotate_left
      · first | (intro w hSw; (try dsimp only at hSw); go_simp; done) | (intro w hSw; (try dsimp only at hSw); go_simp; with_reducible rfl)
      simp only [Act.put, List.setIfInBounds_toArray, List.set_cons_zero, List.set_cons_succ]
      refine wpAnyH_take (i := 8) (oi := { dst := some 25, op := Op.move (Operand.tmp 1), type := 57, pos := "node.go:67", after := #[], guard := none }) (v := ?_) rfl (by kernel_rfl) (by kernel_rfl) (by kernel_rfl) (fun _ _ _ h => h) (Or.inl ⟨by rfl, ?_⟩) (by assumption) ?_
      rotate_left
      · first | (intro w hSw; (try dsimp only at hSw); go_simp; done) | (intro w hSw; (try dsimp only at hSw); go_simp; with_reducible rfl)
      simp only [Act.put, List.setIfInBounds_toArray, List.set_cons_zero, List.set_cons_succ]
      clear hS0 hHeld HR HI
      generalize w.drew = w1 at *
      have HC1 := Lib.hid (with_any k v bl r y w1 (HY.out.on hb1) (HK.out.on hb1) (by omega) (Sh.tab_below HT.out hb1 hw.1) (hw.on hb1))
      rw [ptr_some, ptr_some] at HC1
      refine wpAnyH_ready (rs := [9]) (by kernel_rfl) (by simp) ?_
      refine AllReadyH.cons rfl (fun K hK => ?_) AllReadyH.nil
      go_simp
      refine HC1.out.mono ?_
      rintro e w2 ⟨b1, rfl, hN1, hb2⟩
      rw [ptr_some]
      replace hb2 := hb1.trans (hb2.mono hb1.size)
      refine hK.out _ _ (HH.out.sides hb2) (fun _ => ?_)
      clear hK K HC1 hb1
      have HC2 := Lib.hid (bal_any l (r.put k v) x b1 w2 (HX.out.on hb2) hN1 (by have := put_n k v r; omega) (Sh.tab_below HT.out hb2 hw.1) (hw.on hb2))
      rw [ptr_some, ptr_some] at HC2
      clear hN1
      refine wpAnyH_ready (rs := [10]) (by kernel_rfl) (by simp) ?_
      refine AllReadyH.cons rfl (fun K hK => ?_) AllReadyH.nil
      go_simp
      refine HC2.out.mono ?_
      rintro e w3 ⟨b2, rfl, hN2, hb3⟩
      rw [ptr_some]
      replace hb3 := hb2.trans (hb3.mono hb2.size)
      have hHeld := HH.out.sides hb3
      refine hK.out _ _ hHeld (fun _ => ?_)
      clear hK K HC2 hb2
      have HN2 := Lib.hid hN2
      have HB3 := Lib.hid hb3
      clear hN2 hb3
      refine wpAnyH_take (i := 11) (oi := { dst := some 4, op := Op.assign (Operand.tmp 27), type := 57, pos := "node.go:67", after := #[{ on := 10, ground := Ground.data }, { on := 10, ground := Ground.chain }, { on := 0, ground := Ground.phase }, { on := 1, ground := Ground.phase }, { on := 2, ground := Ground.phase }, { on := 3, ground := Ground.phase }, { on := 4, ground := Ground.phase }, { on := 5, ground := Ground.phase }, { on := 6, ground := Ground.phase }, { on := 7, ground := Ground.phase }, { on := 8, ground := Ground.phase }, { on := 9, ground := Ground.phase }, { on := 10, ground := Ground.phase }], guard := none }) (v := ?_) rfl (by kernel_rfl) (by kernel_rfl) (by kernel_rfl) (fun _ _ _ h => h) (Or.inl ⟨by rfl, ?_⟩) (by assumption) ?_
      rotate_left
      · first | (intro w hSw; (try dsimp only at hSw); go_simp; done) | (intro w hSw; (try dsimp only at hSw); go_simp; with_reducible rfl)
      simp only [Act.put, List.setIfInBounds_toArray, List.set_cons_zero, List.set_cons_succ]
      refine wpAnyH_done (by kernel_rfl) ?_ _
      clear hHeld
      go_wp2_with fail
      go_ret
      exact ⟨b2, rfl, HN2.out, HB3.out⟩
end Go.Proofs.YtehmkkccnadhoaaDoor
