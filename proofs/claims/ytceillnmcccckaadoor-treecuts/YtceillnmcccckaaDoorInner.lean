/-
  What tree.Hash returns for an inner node: the sum of the text that the chapter gives; conditions: the table holds its words, its sums have 32 bytes. It only makes memory of its own.
-/
import Derived.Test.YtceillnmcccckaaDoorHash
namespace Go.Proofs.YtceillnmcccckaaDoor
open Go.RowKit
open Tr

/-- Four slices handed over as parts. -/
theorem parts_four (w : World) (t : TypeId) (A1 A2 A3 A4 : Option Addr) (n1 n2 n3 n4 c1 c2 c3 c4 : Nat) (b1 b2 b3 b4 : List UInt8) (h1 : Sh.Reads w A1 n1 b1) (h2 : Sh.Reads w A2 n2 b2) (h3 : Sh.Reads w A3 n3 b3) (h4 : Sh.Reads w A4 n4 b4)
    (k1 : n1 ≤ c1) (k2 : n2 ≤ c2) (k3 : n3 ≤ c3) (k4 : n4 ≤ c4) (m1 : n1 ≤ 140737488355328) (m2 : n2 ≤ 140737488355328) (m3 : n3 ≤ 140737488355328) (m4 : n4 ≤ 140737488355328) :
    Sh.Parts (w.alloc (.cells #[.slice A1 n1 c1, .slice A2 n2 c2, .slice A3 n3 c3, .slice A4 n4 c4] t)) (some ⟨w.heap.size, 0, none⟩) 4 [b1, b2, b3, b4] := by
  have hb : Below w.heap.size w (w.alloc (.cells #[.slice A1 n1 c1, .slice A2 n2 c2, .slice A3 n3 c3, .slice A4 n4 c4] t)) := (Below.refl _ _).alloc (Nat.le_refl _) _
  refine ⟨rfl, fun _ => ⟨w.heap.size, 0, rfl, by simp, fun j l hl => ?_⟩⟩
  have hj : j < 4 := (List.getElem?_eq_some_iff.1 hl).1
  match j, hj with
  | 0, _ => simp at hl; subst hl; exact ⟨A1, n1, c1, (Whole.made w t _).at_ rfl, k1, m1, h1.below hb⟩
  | 1, _ => simp at hl; subst hl; exact ⟨A2, n2, c2, (Whole.made w t _).at_ rfl, k2, m2, h2.below hb⟩
  | 2, _ => simp at hl; subst hl; exact ⟨A3, n3, c3, (Whole.made w t _).at_ rfl, k3, m3, h3.below hb⟩
  | 3, _ => simp at hl; subst hl; exact ⟨A4, n4, c4, (Whole.made w t _).at_ rfl, k4, m4, h4.below hb⟩

/-- The two sums in a boxed node, read as bytes. -/
theorem abox_l {w : World} {g : Nat} {t : TypeId} {kv vv : Value} {h : Int} {z : Nat} {l r : List UInt8} (hw : Whole w g t (acells kv vv h z l r).toArray) (hl : l.length = 32) : Rd w w.heap.size (some ⟨g, 4, none⟩) 32 l :=
  Rd.mk_ hl g 4 hw.lt fun j v hv => hw.at_ (by
    have hj := (List.getElem?_eq_some_iff.1 hv).1
    rw [List.getElem?_toArray, acells, Nat.add_comm 4 j]
    show (List.map V8 l ++ List.map V8 r)[j]? = _
    rw [List.getElem?_append_left (by rw [List.length_map]; exact hj), List.getElem?_map, hv]; rfl)
theorem abox_r {w : World} {g : Nat} {t : TypeId} {kv vv : Value} {h : Int} {z : Nat} {l r : List UInt8} (hw : Whole w g t (acells kv vv h z l r).toArray) (hl : l.length = 32) (hr : r.length = 32) : Rd w w.heap.size (some ⟨g, 36, none⟩) 32 r :=
  Rd.mk_ hr g 36 hw.lt fun j v hv => hw.at_ (by
    rw [List.getElem?_toArray, acells, show 36 + j = (32 + j) + 4 by omega]
    show (List.map V8 l ++ List.map V8 r)[32 + j]? = _
    rw [List.getElem?_append_right (by rw [List.length_map]; omega), List.length_map, hl, Nat.add_sub_cancel_left, List.getElem?_map, hv]; rfl)

set_option maxRecDepth 100000 in
set_option maxHeartbeats 2000000 in
theorem hash_inner (kv vv : Value) (h : Int) (hb8 : UInt8) (z : UInt64) (l r : List UInt8) (w : World) (hh : h ≠ 0) (hbyte : IntKind.u8.wrap h = (hb8.toNat : Int)) (hl : l.length = 32) (hr : r.length = 32)
    (ht : Sh.Tab w 1) (hw : 1 < w.heap.size) :
    Calls Tryd.prog 34 #[.agg (acells kv vv h z.toNat l r).toArray] w fun e w' => e = .returned (.agg (Sh.bcells (Sh.Sha.sum (innerText hb8 z l r)))) ∧ Below w.heap.size w w' := by
  have hz49 := zero49
  have HT := Lib.hid ht
  have HL := Lib.hid (And.intro hl hr)
  have HBY := Lib.hid hbyte
  have hh0 : (h == 0) = false := by rw [beq_eq_false_iff_ne]; exact hh
  clear ht hl hr hbyte hh
  go_enter Tryd.func34, Tryd.ntmps34
  go_upto_region 1 with (fail)
  clear hz49
  have hb : Below w.heap.size w ((w.alloc (.cells (acells kv vv h z.toNat l r).toArray 64)).alloc (.cells (zb 32) 49)) := ((Below.refl _ _).alloc (Nat.le_refl _) _).alloc (by simp) _
  have hw1 := (Whole.made w 64 (acells kv vv h z.toNat l r).toArray).alloc (.cells (zb 32) 49)
  have hw2 := Whole.made (w.alloc (.cells (acells kv vv h z.toNat l r).toArray 64)) 49 (zb 32)
  rw [size_alloc] at hw2
  have hs : w.heap.size + 1 < ((w.alloc (.cells (acells kv vv h z.toNat l r).toArray 64)).alloc (.cells (zb 32) 49)).heap.size := by simp
  generalize (w.alloc (.cells (acells kv vv h z.toNat l r).toArray 64)).alloc (.cells (zb 32) 49) = w1 at *
  obtain ⟨_, _, c2, c3⟩ := abox hw1
  have HB := Lib.hid hb
  have HW1 := Lib.hid hw1
  have HW2 := Lib.hid hw2
  clear hb hw1 hw2
  obtain ⟨X, hX⟩ : ∃ X, (acells kv vv h z.toNat l r).toArray = X := ⟨_, rfl⟩
  rw [hX] at HW1 ⊢
  have HX := Lib.hid hX
  clear hX
  go_upto_region 4 with (fail)
  have hS0 : w1.drew.cell? ⟨w.heap.size, 2, none⟩ = some (.int .i64 h) ∧ w1.drew.cell? ⟨w.heap.size, 3, none⟩ = some (.int .u64 z.toNat) := ⟨c2, c3⟩
  refine wp_region_held_drew (S := fun w' => w'.cell? ⟨w.heap.size, 2, none⟩ = some (.int .i64 h) ∧ w'.cell? ⟨w.heap.size, 3, none⟩ = some (.int .u64 z.toNat)) (by kernel_rfl) hS0 (fun hHeld => ?_)
  refine wpAnyH_take (i := 0) (oi := { dst := some 21, op := Op.fieldAddr 64 (Operand.tmp 1) 2, type := 0, pos := "tree.go:29", after := #[], guard := none }) (v := ?_) rfl (by kernel_rfl) (by kernel_rfl) (by kernel_rfl) (fun _ _ _ h => h) (Or.inl ⟨by rfl, ?_⟩) (by assumption) ?_
  rotate_left
  · first | (intro w hSw; (try dsimp only at hSw); go_simp; done) | (intro w hSw; (try dsimp only at hSw); go_simp; with_reducible rfl)
  simp only [Act.put, List.setIfInBounds_toArray, List.set_cons_zero, List.set_cons_succ]
  refine wpAnyH_take (i := 1) (oi := { dst := some 22, op := Op.load 3 (Operand.tmp 21), type := 3, pos := "tree.go:29", after := #[{ on := 0, ground := Ground.data }], guard := none }) (v := ?_) rfl (by kernel_rfl) (by kernel_rfl) (by kernel_rfl) (fun _ _ _ h => h) (Or.inl ⟨by rfl, ?_⟩) (by assumption) ?_
  rotate_left
  · first | (intro w hSw; (try dsimp only at hSw); go_simp; done) | (intro w hSw; (try dsimp only at hSw); go_simp; with_reducible rfl)
  simp only [Act.put, List.setIfInBounds_toArray, List.set_cons_zero, List.set_cons_succ]
  refine wpAnyH_take (i := 2) (oi := { dst := some 23, op := Op.convert 3 5 (Operand.tmp 22), type := 5, pos := "tree.go:29", after := #[{ on := 1, ground := Ground.data }], guard := none }) (v := ?_) rfl (by kernel_rfl) (by kernel_rfl) (by kernel_rfl) (fun _ _ _ h => h) (Or.inl ⟨by rfl, ?_⟩) (by assumption) ?_
  rotate_left
  · first | (intro w hSw; (try dsimp only at hSw); go_simp; done) | (intro w hSw; (try dsimp only at hSw); go_simp; with_reducible rfl)
  simp only [Act.put, List.setIfInBounds_toArray, List.set_cons_zero, List.set_cons_succ]
  refine wpAnyH_take (i := 4) (oi := { dst := some 25, op := Op.fieldAddr 64 (Operand.tmp 1) 3, type := 0, pos := "tree.go:29", after := #[], guard := none }) (v := ?_) rfl (by kernel_rfl) (by kernel_rfl) (by kernel_rfl) (fun _ _ _ h => h) (Or.inl ⟨by rfl, ?_⟩) (by assumption) ?_
  rotate_left
  · first | (intro w hSw; (try dsimp only at hSw); go_simp; done) | (intro w hSw; (try dsimp only at hSw); go_simp; with_reducible rfl)
  simp only [Act.put, List.setIfInBounds_toArray, List.set_cons_zero, List.set_cons_succ]
  refine wpAnyH_take (i := 5) (oi := { dst := some 26, op := Op.load 60 (Operand.tmp 25), type := 60, pos := "tree.go:29", after := #[{ on := 4, ground := Ground.data }], guard := none }) (v := ?_) rfl (by kernel_rfl) (by kernel_rfl) (by kernel_rfl) (fun _ _ _ h => h) (Or.inl ⟨by rfl, ?_⟩) (by assumption) ?_
  rotate_left
  · first | (intro w hSw; (try dsimp only at hSw); go_simp; done) | (intro w hSw; (try dsimp only at hSw); go_simp; with_reducible rfl)
  simp only [Act.put, List.setIfInBounds_toArray, List.set_cons_zero, List.set_cons_succ]
  refine wpAnyH_take (i := 7) (oi := { dst := some 28, op := Op.fieldAddr 64 (Operand.tmp 1) 4, type := 0, pos := "tree.go:29", after := #[], guard := none }) (v := ?_) rfl (by kernel_rfl) (by kernel_rfl) (by kernel_rfl) (fun _ _ _ h => h) (Or.inl ⟨by rfl, ?_⟩) (by assumption) ?_
  rotate_left
  · first | (intro w hSw; (try dsimp only at hSw); go_simp; done) | (intro w hSw; (try dsimp only at hSw); go_simp; with_reducible rfl)
  simp only [Act.put, List.setIfInBounds_toArray, List.set_cons_zero, List.set_cons_succ]
  refine wpAnyH_take (i := 8) (oi := { dst := some 29, op := Op.slice 49 (Operand.tmp 28) none none none, type := 27, pos := "tree.go:29", after := #[{ on := 7, ground := Ground.data }], guard := none }) (v := ?_) rfl (by kernel_rfl) (by kernel_rfl) (by kernel_rfl) (fun _ _ _ h => h) (Or.inl ⟨by rfl, ?_⟩) (by assumption) ?_
  rotate_left
  · first | (intro w hSw; (try dsimp only at hSw); go_simp; done) | (intro w hSw; (try dsimp only at hSw); go_simp; with_reducible rfl)
  simp only [Act.put, List.setIfInBounds_toArray, List.set_cons_zero, List.set_cons_succ]
  refine wpAnyH_take (i := 9) (oi := { dst := some 30, op := Op.fieldAddr 64 (Operand.tmp 1) 5, type := 0, pos := "tree.go:29", after := #[], guard := none }) (v := ?_) rfl (by kernel_rfl) (by kernel_rfl) (by kernel_rfl) (fun _ _ _ h => h) (Or.inl ⟨by rfl, ?_⟩) (by assumption) ?_
  rotate_left
  · first | (intro w hSw; (try dsimp only at hSw); go_simp; done) | (intro w hSw; (try dsimp only at hSw); go_simp; with_reducible rfl)
  simp only [Act.put, List.setIfInBounds_toArray, List.set_cons_zero, List.set_cons_succ]
  refine wpAnyH_take (i := 10) (oi := { dst := some 31, op := Op.slice 49 (Operand.tmp 30) none none none, type := 27, pos := "tree.go:29", after := #[{ on := 9, ground := Ground.data }], guard := none }) (v := ?_) rfl (by kernel_rfl) (by kernel_rfl) (by kernel_rfl) (fun _ _ _ h => h) (Or.inl ⟨by rfl, ?_⟩) (by assumption) ?_
  rotate_left
  · first | (intro w hSw; (try dsimp only at hSw); go_simp; done) | (intro w hSw; (try dsimp only at hSw); go_simp; with_reducible rfl)
  simp only [Act.put, List.setIfInBounds_toArray, List.set_cons_zero, List.set_cons_succ]
  have d1 : w1.cell? ⟨w.heap.size, 2, none⟩ = some (.int .i64 h) ∧ w1.cell? ⟨w.heap.size, 3, none⟩ = some (.int .u64 z.toNat) := ⟨c2, c3⟩
  clear c2 c3 hS0 hHeld hh0
  refine wpAnyH_ready (rs := [3, 6]) (by kernel_rfl) (by simp) ?_
  refine AllReadyH.cons rfl (fun K hK => ?_) (AllReadyH.cons rfl (fun K hK => ?_) AllReadyH.nil)
  · go_simp
    have hb4 : Below w1.heap.size w1 (w1.alloc (.cells #[.int .u8 1, .int .u8 (IntKind.u8.wrap h)] 5)).drew := ((Below.refl _ _).alloc (Nat.le_refl _) _).drew
    have hr4 : Rd (w1.alloc (.cells #[.int .u8 1, .int .u8 (IntKind.u8.wrap h)] 5)).drew (w1.heap.size + 1) (some ⟨w1.heap.size, 0, none⟩) 2 [1, hb8] := rd_new w1 5 [1, hb8] 2 rfl _ (by rw [HBY.out]; rfl)
    have hg4 : w1.heap.size + 1 ≤ (w1.alloc (.cells #[.int .u8 1, .int .u8 (IntKind.u8.wrap h)] 5)).drew.heap.size := Nat.le_of_eq (size_alloc _ _).symm
    generalize (w1.alloc (.cells #[.int .u8 1, .int .u8 (IntKind.u8.wrap h)] 5)).drew = w4 at *
    have d4 : w4.cell? ⟨w.heap.size, 2, none⟩ = some (.int .i64 h) ∧ w4.cell? ⟨w.heap.size, 3, none⟩ = some (.int .u64 z.toNat) := by
      rw [hb4.cell (p := ⟨w.heap.size, 2, none⟩) (by show w.heap.size < _; omega), hb4.cell (p := ⟨w.heap.size, 3, none⟩) (by show w.heap.size < _; omega)]; exact d1
    refine hK.out _ _ d4 (fun _ => ?_)
    have HX4 := Lib.hid (HW1.out.below hb4 (by omega))
    have HR4 := Lib.hid (HW2.out.below hb4 hs)
    have HB4 := Lib.hid (HB.out.trans (hb4.mono HB.out.size))
    have HRD4 := Lib.hid hr4
    clear hK K d1 HW1 HW2 HB hb4 hr4
    generalize w1.heap.size = g4 at *
    refine wpAnyH_ready (rs := [6]) (by kernel_rfl) (by simp) ?_
    refine AllReadyH.cons rfl (fun K hK => ?_) AllReadyH.nil
    go_simp
    refine (sizeBytes_any z w4).mono ?_
    rintro e w5 ⟨Ae, ne, ce, rfl, hre, hnce, hb5⟩
    have hs5 : w.heap.size + 1 < w5.heap.size := by have := hb5.size; omega
    have d5 : w5.cell? ⟨w.heap.size, 2, none⟩ = some (.int .i64 h) ∧ w5.cell? ⟨w.heap.size, 3, none⟩ = some (.int .u64 z.toNat) := by
      rw [hb5.cell (p := ⟨w.heap.size, 2, none⟩) (by show w.heap.size < _; omega), hb5.cell (p := ⟨w.heap.size, 3, none⟩) (by show w.heap.size < _; omega)]; exact d4
    refine hK.out _ _ d5 (fun _ => ?_)
    have HX5 := Lib.hid (HX4.out.below hb5 (by omega))
    have HR5 := Lib.hid (HR4.out.below hb5 (by omega))
    have HB5 := Lib.hid (HB4.out.trans (hb5.mono HB4.out.size))
    have HRD5 := Lib.hid ((HRD4.out.below hb5 hg4).more (B' := w5.heap.size) (by have := hb5.size; omega))
    have HRE := Lib.hid hre
    clear hK K d4 HX4 HR4 HB4 HRD4 hre hb5 hg4
    refine wpAnyH_ready (rs := [11]) (by kernel_rfl) (by simp) ?_
    refine AllReadyH.cons rfl (fun K hK => ?_) AllReadyH.nil
    go_simp
    have hb6 : Below w5.heap.size w5 (w5.alloc (.cells #[.slice (some ⟨g4, 0, none⟩) 2 2, .slice Ae ne ce, .slice (some ⟨w.heap.size, 4, none⟩) 32 32, .slice (some ⟨w.heap.size, 36, none⟩) 32 32] 27)) := (Below.refl _ _).alloc (Nat.le_refl _) _
    have hX5 := HX5.out
    rw [← HX.out] at hX5
    have hne8 : ne = 8 := by rw [← HRE.out.len]; exact Sh.Sha.be8_length z
    have hp6 := parts_four w5 27 (some ⟨g4, 0, none⟩) Ae (some ⟨w.heap.size, 4, none⟩) (some ⟨w.heap.size, 36, none⟩) 2 ne 32 32 2 ce 32 32 [1, hb8] (Sh.Sha.be8 z) l r (reads_of_rd HRD5.out (Nat.le_refl _)) (reads_of_rd HRE.out (Nat.le_refl _))
      (reads_of_rd (abox_l hX5 HL.out.1) (Nat.le_refl _)) (reads_of_rd (abox_r hX5 HL.out.1 HL.out.2) (Nat.le_refl _)) (Nat.le_refl _) hnce (Nat.le_refl _) (Nat.le_refl _) (by omega) (by omega) (by omega) (by omega)
    have HB6 := Lib.hid (HB5.out.trans (hb6.mono HB5.out.size))
    have hsz6 : (w5.alloc (.cells #[.slice (some ⟨g4, 0, none⟩) 2 2, .slice Ae ne ce, .slice (some ⟨w.heap.size, 4, none⟩) 32 32, .slice (some ⟨w.heap.size, 36, none⟩) 32 32] 27)).heap.size = w5.heap.size + 1 := size_alloc _ _
    have hsum := Sh.sum_any _ 4 4 _ _ hp6 (by omega) (Sh.tab_below HT.out HB6.out hw) (by omega)
    have htxt : [[1, hb8], Sh.Sha.be8 z, l, r].flatten = innerText hb8 z l r := by
      rw [innerText]; simp
    rw [htxt] at hsum
    have HSUM := Lib.hid hsum
    have hg6 : w.heap.size + 1 < (w5.alloc (.cells #[.slice (some ⟨g4, 0, none⟩) 2 2, .slice Ae ne ce, .slice (some ⟨w.heap.size, 4, none⟩) 32 32, .slice (some ⟨w.heap.size, 36, none⟩) 32 32] 27)).heap.size := by omega
    have HR6 := Lib.hid (HR5.out.below hb6 (by omega))
    generalize hw6 : w5.alloc (.cells #[.slice (some ⟨g4, 0, none⟩) 2 2, .slice Ae ne ce, .slice (some ⟨w.heap.size, 4, none⟩) 32 32, .slice (some ⟨w.heap.size, 36, none⟩) 32 32] 27) = w6 at *
    have d6 : w6.cell? ⟨w.heap.size, 2, none⟩ = some (.int .i64 h) ∧ w6.cell? ⟨w.heap.size, 3, none⟩ = some (.int .u64 z.toNat) := by
      rw [hb6.cell (p := ⟨w.heap.size, 2, none⟩) (by show w.heap.size < _; omega), hb6.cell (p := ⟨w.heap.size, 3, none⟩) (by show w.heap.size < _; omega)]; exact d5
    refine hK.out _ _ d6 (fun _ => ?_)
    clear hK K hp6 hb6 hsum htxt HRD5 d5 HX5 HR5 HB5 hsz6 hX5 hw6 HRE hne8
    refine wpAnyH_ready (rs := [12]) (by kernel_rfl) (by simp) ?_
    refine AllReadyH.cons rfl (fun K hK => ?_) AllReadyH.nil
    go_simp
    refine HSUM.out.mono ?_
    rintro e w7 ⟨rfl, hb7⟩
    have d7 : w7.cell? ⟨w.heap.size, 2, none⟩ = some (.int .i64 h) ∧ w7.cell? ⟨w.heap.size, 3, none⟩ = some (.int .u64 z.toNat) := by
      rw [hb7.cell (p := ⟨w.heap.size, 2, none⟩) (by show w.heap.size < _; omega), hb7.cell (p := ⟨w.heap.size, 3, none⟩) (by show w.heap.size < _; omega)]; exact d6
    have HR7 := Lib.hid (HR6.out.below hb7 (by omega))
    have HB7 := Lib.hid (HB6.out.trans (hb7.mono HB6.out.size))
    clear hb7 HSUM HR6 HB6 d6
    obtain ⟨Y, hY⟩ : ∃ Y, Sh.bcells (Sh.Sha.sum (innerText hb8 z l r)) = Y := ⟨_, rfl⟩
    have hsizeY : Y.size = 32 := by rw [← hY, Sh.bcells_size, Sh.sum_length]
    have honeY : Y.all (·.oneCell') = true := by rw [← hY]; exact Sh.bcells_one _
    rw [hY]
    have HY := Lib.hid hY
    clear hY
    refine hK.out _ _ d7 (fun _ => ?_)
    clear hK K
    refine wpAnyH_ready (rs := [13]) (by kernel_rfl) (by simp) ?_
    refine AllReadyH.cons rfl (fun K hK => ?_) AllReadyH.nil
    refine Eq.mpr (if_pos (by rfl)) ?_
    refine wp_store_mid 49 (.tmp 2) (.tmp 33) rfl (w.heap.size + 1) 0 Y rfl rfl ?_ ?_ honeY ?_
    · rw [hsizeY]; have := HR7.out.there_; rw [zb_size] at this; exact this
    · rw [hsizeY]; exact info49
    have hw8 := HR7.out.setAll (vs := Y) (by rw [zb_size, hsizeY])
    have hb8' := below_setCells w (w.heap.size + 1) Y.toList 0 HB7.out (by omega)
    have hbs := below_setCells (B := w.heap.size + 1) w7 (w.heap.size + 1) Y.toList 0 (Below.refl _ _) (Nat.le_refl _)
    generalize w7.setCells (w.heap.size + 1) 0 Y.toList = w8 at *
    have d8 : w8.cell? ⟨w.heap.size, 2, none⟩ = some (.int .i64 h) ∧ w8.cell? ⟨w.heap.size, 3, none⟩ = some (.int .u64 z.toNat) := by
      rw [hbs.cell (p := ⟨w.heap.size, 2, none⟩) (by show w.heap.size < _; omega), hbs.cell (p := ⟨w.heap.size, 3, none⟩) (by show w.heap.size < _; omega)]; exact d7
    refine hK.out _ _ d8 (fun _ => ?_)
    clear hK K d7 d8 HR7 HB7 hbs
    have HW8 := Lib.hid hw8
    have HB8 := Lib.hid hb8'
    clear hw8 hb8'
    refine wpAnyH_done (by kernel_rfl) ?_ _
    go_wp2_with fail
    refine bodyPost_ret (results_cell1 Tryd.results34 _ _ _ ⟨w.heap.size + 1, 0, none⟩ _ rfl (load_whole HW8.out 49 _ Tryd.underlying49 rfl (by rw [hsizeY]; exact info49))) rfl ⟨by rw [HY.out], HB8.out⟩
  · go_simp
    refine (sizeBytes_any z w1.drew).mono ?_
    rintro e w4 ⟨Ae, ne, ce, rfl, hre, hnce, hb4⟩
    replace hb4 : Below w1.heap.size w1 w4 := (Below.refl _ _).drew.trans hb4
    have hg4 : w1.heap.size ≤ w4.heap.size := hb4.size
    have d4 : w4.cell? ⟨w.heap.size, 2, none⟩ = some (.int .i64 h) ∧ w4.cell? ⟨w.heap.size, 3, none⟩ = some (.int .u64 z.toNat) := by
      rw [hb4.cell (p := ⟨w.heap.size, 2, none⟩) (by show w.heap.size < _; omega), hb4.cell (p := ⟨w.heap.size, 3, none⟩) (by show w.heap.size < _; omega)]; exact d1
    refine hK.out _ _ d4 (fun _ => ?_)
    have HX4 := Lib.hid (HW1.out.below hb4 (by omega))
    have HR4 := Lib.hid (HW2.out.below hb4 hs)
    have HB4 := Lib.hid (HB.out.trans (hb4.mono HB.out.size))
    have HRE4 := Lib.hid hre
    clear hK K d1 HW1 HW2 HB hb4 hre
    refine wpAnyH_ready (rs := [3]) (by kernel_rfl) (by simp) ?_
    refine AllReadyH.cons rfl (fun K hK => ?_) AllReadyH.nil
    go_simp
    have hb5 : Below w4.heap.size w4 (w4.alloc (.cells #[.int .u8 1, .int .u8 (IntKind.u8.wrap h)] 5)) := (Below.refl _ _).alloc (Nat.le_refl _) _
    have hr5 : Rd (w4.alloc (.cells #[.int .u8 1, .int .u8 (IntKind.u8.wrap h)] 5)) (w4.heap.size + 1) (some ⟨w4.heap.size, 0, none⟩) 2 [1, hb8] := rd_new w4 5 [1, hb8] 2 rfl _ (by rw [HBY.out]; rfl)
    have hg5 : w4.heap.size + 1 ≤ (w4.alloc (.cells #[.int .u8 1, .int .u8 (IntKind.u8.wrap h)] 5)).heap.size := Nat.le_of_eq (size_alloc _ _).symm
    generalize w4.alloc (.cells #[.int .u8 1, .int .u8 (IntKind.u8.wrap h)] 5) = w5 at *
    have hs5 : w.heap.size + 1 < w5.heap.size := by have := hb5.size; omega
    have d5 : w5.cell? ⟨w.heap.size, 2, none⟩ = some (.int .i64 h) ∧ w5.cell? ⟨w.heap.size, 3, none⟩ = some (.int .u64 z.toNat) := by
      rw [hb5.cell (p := ⟨w.heap.size, 2, none⟩) (by show w.heap.size < _; omega), hb5.cell (p := ⟨w.heap.size, 3, none⟩) (by show w.heap.size < _; omega)]; exact d4
    refine hK.out _ _ d5 (fun _ => ?_)
    have HX5 := Lib.hid (HX4.out.below hb5 (by omega))
    have HR5 := Lib.hid (HR4.out.below hb5 (by omega))
    have HB5 := Lib.hid (HB4.out.trans (hb5.mono HB4.out.size))
    have HRD5 := Lib.hid (hr5.more hg5)
    have HRE := Lib.hid ((HRE4.out.below hb5 (Nat.le_refl _)).more hb5.size)
    clear hK K d4 HX4 HR4 HB4 HRE4 hr5 hb5 hg5
    generalize w4.heap.size = g4 at *
    refine wpAnyH_ready (rs := [11]) (by kernel_rfl) (by simp) ?_
    refine AllReadyH.cons rfl (fun K hK => ?_) AllReadyH.nil
    go_simp
    have hb6 : Below w5.heap.size w5 (w5.alloc (.cells #[.slice (some ⟨g4, 0, none⟩) 2 2, .slice Ae ne ce, .slice (some ⟨w.heap.size, 4, none⟩) 32 32, .slice (some ⟨w.heap.size, 36, none⟩) 32 32] 27)) := (Below.refl _ _).alloc (Nat.le_refl _) _
    have hX5 := HX5.out
    rw [← HX.out] at hX5
    have hne8 : ne = 8 := by rw [← HRE.out.len]; exact Sh.Sha.be8_length z
    have hp6 := parts_four w5 27 (some ⟨g4, 0, none⟩) Ae (some ⟨w.heap.size, 4, none⟩) (some ⟨w.heap.size, 36, none⟩) 2 ne 32 32 2 ce 32 32 [1, hb8] (Sh.Sha.be8 z) l r (reads_of_rd HRD5.out (Nat.le_refl _)) (reads_of_rd HRE.out (Nat.le_refl _))
      (reads_of_rd (abox_l hX5 HL.out.1) (Nat.le_refl _)) (reads_of_rd (abox_r hX5 HL.out.1 HL.out.2) (Nat.le_refl _)) (Nat.le_refl _) hnce (Nat.le_refl _) (Nat.le_refl _) (by omega) (by omega) (by omega) (by omega)
    have HB6 := Lib.hid (HB5.out.trans (hb6.mono HB5.out.size))
    have hsz6 : (w5.alloc (.cells #[.slice (some ⟨g4, 0, none⟩) 2 2, .slice Ae ne ce, .slice (some ⟨w.heap.size, 4, none⟩) 32 32, .slice (some ⟨w.heap.size, 36, none⟩) 32 32] 27)).heap.size = w5.heap.size + 1 := size_alloc _ _
    have hsum := Sh.sum_any _ 4 4 _ _ hp6 (by omega) (Sh.tab_below HT.out HB6.out hw) (by omega)
    have htxt : [[1, hb8], Sh.Sha.be8 z, l, r].flatten = innerText hb8 z l r := by
      rw [innerText]; simp
    rw [htxt] at hsum
    have HSUM := Lib.hid hsum
    have hg6 : w.heap.size + 1 < (w5.alloc (.cells #[.slice (some ⟨g4, 0, none⟩) 2 2, .slice Ae ne ce, .slice (some ⟨w.heap.size, 4, none⟩) 32 32, .slice (some ⟨w.heap.size, 36, none⟩) 32 32] 27)).heap.size := by omega
    have HR6 := Lib.hid (HR5.out.below hb6 (by omega))
    generalize hw6 : w5.alloc (.cells #[.slice (some ⟨g4, 0, none⟩) 2 2, .slice Ae ne ce, .slice (some ⟨w.heap.size, 4, none⟩) 32 32, .slice (some ⟨w.heap.size, 36, none⟩) 32 32] 27) = w6 at *
    have d6 : w6.cell? ⟨w.heap.size, 2, none⟩ = some (.int .i64 h) ∧ w6.cell? ⟨w.heap.size, 3, none⟩ = some (.int .u64 z.toNat) := by
      rw [hb6.cell (p := ⟨w.heap.size, 2, none⟩) (by show w.heap.size < _; omega), hb6.cell (p := ⟨w.heap.size, 3, none⟩) (by show w.heap.size < _; omega)]; exact d5
    refine hK.out _ _ d6 (fun _ => ?_)
    clear hK K hp6 hb6 hsum htxt HRD5 d5 HX5 HR5 HB5 hsz6 hX5 hw6 HRE hne8
    refine wpAnyH_ready (rs := [12]) (by kernel_rfl) (by simp) ?_
    refine AllReadyH.cons rfl (fun K hK => ?_) AllReadyH.nil
    go_simp
    refine HSUM.out.mono ?_
    rintro e w7 ⟨rfl, hb7⟩
    have d7 : w7.cell? ⟨w.heap.size, 2, none⟩ = some (.int .i64 h) ∧ w7.cell? ⟨w.heap.size, 3, none⟩ = some (.int .u64 z.toNat) := by
      rw [hb7.cell (p := ⟨w.heap.size, 2, none⟩) (by show w.heap.size < _; omega), hb7.cell (p := ⟨w.heap.size, 3, none⟩) (by show w.heap.size < _; omega)]; exact d6
    have HR7 := Lib.hid (HR6.out.below hb7 (by omega))
    have HB7 := Lib.hid (HB6.out.trans (hb7.mono HB6.out.size))
    clear hb7 HSUM HR6 HB6 d6
    obtain ⟨Y, hY⟩ : ∃ Y, Sh.bcells (Sh.Sha.sum (innerText hb8 z l r)) = Y := ⟨_, rfl⟩
    have hsizeY : Y.size = 32 := by rw [← hY, Sh.bcells_size, Sh.sum_length]
    have honeY : Y.all (·.oneCell') = true := by rw [← hY]; exact Sh.bcells_one _
    rw [hY]
    have HY := Lib.hid hY
    clear hY
    refine hK.out _ _ d7 (fun _ => ?_)
    clear hK K
    refine wpAnyH_ready (rs := [13]) (by kernel_rfl) (by simp) ?_
    refine AllReadyH.cons rfl (fun K hK => ?_) AllReadyH.nil
    refine Eq.mpr (if_pos (by rfl)) ?_
    refine wp_store_mid 49 (.tmp 2) (.tmp 33) rfl (w.heap.size + 1) 0 Y rfl rfl ?_ ?_ honeY ?_
    · rw [hsizeY]; have := HR7.out.there_; rw [zb_size] at this; exact this
    · rw [hsizeY]; exact info49
    have hw8 := HR7.out.setAll (vs := Y) (by rw [zb_size, hsizeY])
    have hb8' := below_setCells w (w.heap.size + 1) Y.toList 0 HB7.out (by omega)
    have hbs := below_setCells (B := w.heap.size + 1) w7 (w.heap.size + 1) Y.toList 0 (Below.refl _ _) (Nat.le_refl _)
    generalize w7.setCells (w.heap.size + 1) 0 Y.toList = w8 at *
    have d8 : w8.cell? ⟨w.heap.size, 2, none⟩ = some (.int .i64 h) ∧ w8.cell? ⟨w.heap.size, 3, none⟩ = some (.int .u64 z.toNat) := by
      rw [hbs.cell (p := ⟨w.heap.size, 2, none⟩) (by show w.heap.size < _; omega), hbs.cell (p := ⟨w.heap.size, 3, none⟩) (by show w.heap.size < _; omega)]; exact d7
    refine hK.out _ _ d8 (fun _ => ?_)
    clear hK K d7 d8 HR7 HB7 hbs
    have HW8 := Lib.hid hw8
    have HB8 := Lib.hid hb8'
    clear hw8 hb8'
    refine wpAnyH_done (by kernel_rfl) ?_ _
    go_wp2_with fail
    refine bodyPost_ret (results_cell1 Tryd.results34 _ _ _ ⟨w.heap.size + 1, 0, none⟩ _ rfl (load_whole HW8.out 49 _ Tryd.underlying49 rfl (by rw [hsizeY]; exact info49))) rfl ⟨by rw [HY.out], HB8.out⟩
end Go.Proofs.YtceillnmcccckaaDoor
