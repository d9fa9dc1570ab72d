/-
  The law TreeHashes returns true for any node; conditions: its bytes are read, the two tables hold their words.
-/
import Derived.Test.YtceillnmcccckaaDoorRefHash
namespace Go.Proofs.YtceillnmcccckaaDoor
open Go.RowKit
open Tr

theorem u8_any (h : Int) : ∃ b : UInt8, IntKind.u8.wrap h = (b.toNat : Int) :=
  ⟨UInt8.ofNat (h % 256).toNat, by
    have h1 : 0 ≤ h % 256 := Int.emod_nonneg _ (by omega)
    have h2 : h % 256 < 256 := Int.emod_lt_of_pos _ (by omega)
    rw [UInt8.toNat_ofNat']
    show h % 256 = _
    omega⟩
/-- A node's sum, by both. -/
def BothHash (X : Array Value) (Y : List UInt8) (w : World) : Prop := Y.length = 32 ∧ ∀ w', Below w.heap.size w w' →
  Calls Tryd.prog 34 #[.agg X] w' (fun e u => e = .returned (.agg (Sh.bcells Y)) ∧ Below w'.heap.size w' u) ∧ Calls Tryd.prog 35 #[.agg X] w' (fun e u => e = .returned (.agg (Sh.bcells Y)) ∧ Below w'.heap.size w' u)
theorem both_hash (A : Option Addr) (n c : Nat) (A' : Option Addr) (n' c' : Nat) (h : Int) (z : Nat) (hz : z < 18446744073709551616) (l r k v : List UInt8) (w : World) (hl : l.length = 32) (hr : r.length = 32) (hk : Rd w w.heap.size A n k) (hv : Rd w w.heap.size A' n' v) (hnc : n ≤ c) (hnc' : n' ≤ c') (hn : n ≤ 2000) (hn' : n' ≤ 2000)
    (ht : Sh.Tab w 1) (ht0 : Sh.Tab w 0) (hw : 1 < w.heap.size) : ∃ Y, BothHash (acells (.slice A n c) (.slice A' n' c') h z l r).toArray Y w := by
  by_cases h0 : h = 0
  · subst h0
    refine ⟨_, Sh.sum_length _, fun w' hb => ⟨hash_leaf A n c A' n' c' z l r k v w' ((hk.below hb (Nat.le_refl _)).more hb.size) ((hv.below hb (Nat.le_refl _)).more hb.size) hnc hnc' (by omega) (by omega) (Sh.tab_below ht hb hw) (Nat.lt_of_lt_of_le hw hb.size), refHash_leaf A n c A' n' c' z l r k v w' ((hk.below hb (Nat.le_refl _)).more hb.size) ((hv.below hb (Nat.le_refl _)).more hb.size) (by omega) (by omega) (tab0_below ht0 hb hw) (Nat.lt_of_lt_of_le hw hb.size)⟩⟩
  · obtain ⟨b, hb8⟩ := u8_any h
    have ez : (UInt64.ofNat z).toNat = z := by rw [UInt64.toNat_ofNat_of_lt']; exact hz
    rw [← ez]
    refine ⟨_, Sh.sum_length _, fun w' hb => ⟨hash_inner _ _ h b (UInt64.ofNat z) l r w' h0 hb8 hl hr (Sh.tab_below ht hb hw) (Nat.lt_of_lt_of_le hw hb.size), refHash_inner _ _ h b (UInt64.ofNat z) l r w' h0 hb8 hl hr (tab0_below ht0 hb hw) (Nat.lt_of_lt_of_le hw hb.size)⟩⟩

set_option maxRecDepth 100000 in
set_option maxHeartbeats 2000000 in
theorem treeHashes_any (A : Option Addr) (n c : Nat) (A' : Option Addr) (n' c' : Nat) (h : Int) (z : Nat) (l r k v : List UInt8) (w : World) (hN : z < 18446744073709551616 ∧ l.length = 32 ∧ r.length = 32 ∧ Rd w w.heap.size A n k ∧ n ≤ c ∧ n ≤ 140737488355328 ∧ Rd w w.heap.size A' n' v ∧ n' ≤ c' ∧ n' ≤ 140737488355328)
    (ht : Sh.Tab w 1) (ht0 : Sh.Tab w 0) (hw : 1 < w.heap.size) :
    Calls Tryd.prog 5 #[.agg (acells (.slice A n c) (.slice A' n' c') h z l r).toArray] w fun e w' => e = .returned (.bool true) ∧ Below w.heap.size w w' := by
  obtain ⟨hz, hl, hr, hk, hnc, hm1, hv, hnc', hm2⟩ := hN
  have hb0 : Below w.heap.size w (w.alloc (.cells (acells (.slice A n c) (.slice A' n' c') h z l r).toArray 64)) := (Below.refl _ _).alloc (Nat.le_refl _) _
  have hw0 := Whole.made w 64 (acells (.slice A n c) (.slice A' n' c') h z l r).toArray
  have hs0 : (w.alloc (.cells (acells (.slice A n c) (.slice A' n' c') h z l r).toArray 64)).heap.size = w.heap.size + 1 := size_alloc _ _
  have HAW := Lib.hid (awake_any (w.alloc (.cells (acells (.slice A n c) (.slice A' n' c') h z l r).toArray 64)) (Sh.tab_below ht hb0 hw) (by omega))
  have HBO : Hid (n ≤ 2000 → n' ≤ 2000 → ∃ Y, BothHash (acells (.slice A n c) (.slice A' n' c') h z l r).toArray Y w) := Lib.hid (fun q1 q2 => both_hash A n c A' n' c' h z hz l r k v w hl hr hk hv hnc hnc' q1 q2 ht ht0 hw)
  have HI : Hid ((Tryd.prog.info? 64).map (·.size) = some (acells (.slice A n c) (.slice A' n' c') h z l r).length) := Lib.hid (by rw [acells_len _ _ _ _ _ _ hl hr]; exact info64)
  obtain ⟨a0, a1, _, _⟩ := abox hw0
  have HW0 := Lib.hid hw0
  have HB0 := Lib.hid hb0
  have HT := Lib.hid ht
  have HT0 := Lib.hid ht0
  clear hz hl hr hk hnc hv hnc' hb0 hw0 ht ht0 a0 a1
  have HCE : Hid (∀ u g, Whole u g 64 (acells (.slice A n c) (.slice A' n' c') h z l r).toArray → u.cell? ⟨g, 0, none⟩ = some (.slice A n c) ∧ u.cell? ⟨g, 1, none⟩ = some (.slice A' n' c')) := Lib.hid (fun u g hw => ⟨(abox hw).1, (abox hw).2.1⟩)
  generalize acells (.slice A n c) (.slice A' n' c') h z l r = L at *
  go_enter Tryd.func5, Tryd.ntmps5
  go_wp2_with fail
  refine HAW.out.mono ?_
  generalize w.alloc (.cells L.toArray 64) = w0 at *
  rintro e w1 ⟨rfl, hb1⟩
  have hs1 := hb1.size
  have hw1 := HW0.out.below hb1 HW0.out.lt
  obtain ⟨a0, a1⟩ := HCE.out _ _ hw1
  have HW1 := Lib.hid hw1
  have HB1 := Lib.hid (HB0.out.trans (hb1.mono (by omega)))
  clear hb1 hw1 HAW HW0 HB0 HCE
  have i1 : IntKind.i64.wrap ((n : Int) + (n' : Int)) = (n : Int) + (n' : Int) := IntWalk.i64_in _ (by omega)
  by_cases hbig : 2000 < n + n'
  · have q1 : decide ((2000 : Int) < (n : Int) + (n' : Int)) = true := by simp; omega
    go_wp2_with fail
    go_ret
    exact ⟨rfl, HB1.out⟩
  · have q1 : decide ((2000 : Int) < (n : Int) + (n' : Int)) = false := by simp; omega
    obtain ⟨Y, hY32, hY⟩ := HBO.out (by omega) (by omega)
    have HY := Lib.hid hY
    clear hY HBO
    have e1 := fun w => run_eq49 Y Y hY32 hY32 w
    have e2 := fun w => run_eq49 (Sh.Sha.sum []) (Sh.Sha.sum []) (Sh.sum_length _) (Sh.sum_length _) w
    rw [show (Y == Y) = true by simp] at e1
    rw [show (Sh.Sha.sum [] == Sh.Sha.sum []) = true by simp] at e2
    clear hY32
    go_upto_region 5 with (fail)
    clear a0 a1 i1 q1 hbig
    have hd2 : w1.drew.rangeAt w.heap.size 0 L := HW1.out.range
    have HW2 : Hid (Whole w1.drew w.heap.size 64 L.toArray) := Lib.hid HW1.out
    have HB2 := Lib.hid HB1.out.drew
    refine wp_region_held_drew (S := fun w' => w'.rangeAt w.heap.size 0 L) (by kernel_rfl) hd2 (fun hHeld => ?_)
    refine wpAnyH_take (i := 0) (oi := { dst := some 13, op := Op.load 64 (Operand.tmp 1), type := 64, pos := "law.go:151", after := #[], guard := none }) (v := .agg L.toArray) rfl (by kernel_rfl) (by kernel_rfl) (by kernel_rfl) (fun _ _ _ h => h) (yieldsIf_load_mid (by rfl) 64 (.tmp 1) rfl w.heap.size 0 rfl L _ (fun _ h => h) Tryd.underlying64 rfl HI.out) (by assumption) ?_
    simp only [Act.put, List.setIfInBounds_toArray, List.set_cons_zero, List.set_cons_succ]
    refine wpAnyH_take (i := 2) (oi := { dst := some 15, op := Op.load 64 (Operand.tmp 1), type := 64, pos := "law.go:151", after := #[], guard := none }) (v := .agg L.toArray) rfl (by kernel_rfl) (by kernel_rfl) (by kernel_rfl) (fun _ _ _ h => h) (yieldsIf_load_mid (by rfl) 64 (.tmp 1) rfl w.heap.size 0 rfl L _ (fun _ h => h) Tryd.underlying64 rfl HI.out) (by assumption) ?_
    simp only [Act.put, List.setIfInBounds_toArray, List.set_cons_zero, List.set_cons_succ]
    clear HW1 HB1
    generalize w1.drew = w2 at *
    generalize Sh.bcells Y = Ya at *
    have HC1 := Lib.hid (HY.out w2 HB2.out).1
    clear hHeld
    refine wpAnyH_ready (rs := [1]) (by kernel_rfl) (by simp) ?_
    refine AllReadyH.cons rfl (fun K hK => ?_) AllReadyH.nil
    go_simp
    refine HC1.out.mono ?_
    rintro e w3 ⟨rfl, hb3⟩
    have HB3 := Lib.hid (HB2.out.trans (hb3.mono HB2.out.size))
    have HW3 := Lib.hid (HW2.out.below hb3 (by have := HB2.out.size; have := HW2.out.lt; omega))
    have hd3 : w3.rangeAt w.heap.size 0 L := HW3.out.range
    refine hK.out _ _ hd3 (fun hHeld => ?_)
    clear hK K HC1 hb3 hd2 HB2 HW2
    have HC2 := Lib.hid (HY.out w3 HB3.out).2
    clear hHeld
    refine wpAnyH_ready (rs := [3]) (by kernel_rfl) (by simp) ?_
    refine AllReadyH.cons rfl (fun K hK => ?_) AllReadyH.nil
    go_simp
    refine HC2.out.mono ?_
    rintro e w4 ⟨rfl, hb4⟩
    have HB4 := Lib.hid (HB3.out.trans (hb4.mono HB3.out.size))
    have HW4 := Lib.hid (HW3.out.below hb4 (by have := HB3.out.size; have := HW3.out.lt; omega))
    have hd4 : w4.rangeAt w.heap.size 0 L := HW4.out.range
    refine hK.out _ _ hd4 (fun hHeld => ?_)
    clear hK K HC2 hb4 hd3 HB3 HW3
    refine wpAnyH_take (i := 4) (oi := { dst := some 17, op := Op.binOp BinOp.eql 49 (Operand.tmp 14) (Operand.tmp 16) 49, type := 4, pos := "law.go:151", after := #[{ on := 1, ground := Ground.data }, { on := 3, ground := Ground.data }], guard := none }) (v := ?_) rfl (by kernel_rfl) (by kernel_rfl) (by kernel_rfl) (fun _ _ _ h => h) (Or.inl ⟨by rfl, ?_⟩) (by assumption) ?_
    rotate_left
    · first | (intro w hSw; (try dsimp only at hSw); go_simp; done) | (intro w hSw; (try dsimp only at hSw); go_simp; with_reducible rfl)
    simp only [Act.put, List.setIfInBounds_toArray, List.set_cons_zero, List.set_cons_succ]
    refine wpAnyH_take (i := 5) (oi := { dst := some 18, op := Op.move (Operand.tmp 17), type := 4, pos := "law.go:151", after := #[{ on := 4, ground := Ground.data }, { on := 3, ground := Ground.chain }], guard := none }) (v := ?_) rfl (by kernel_rfl) (by kernel_rfl) (by kernel_rfl) (fun _ _ _ h => h) (Or.inl ⟨by rfl, ?_⟩) (by assumption) ?_
    rotate_left
    · first | (intro w hSw; (try dsimp only at hSw); go_simp; done) | (intro w hSw; (try dsimp only at hSw); go_simp; with_reducible rfl)
    simp only [Act.put, List.setIfInBounds_toArray, List.set_cons_zero, List.set_cons_succ]
    clear hHeld
    have hq4 := HB4.out.size
    have HC3 := Lib.hid (empty_any w4 (Sh.tab_below HT.out HB4.out hw) (by omega))
    refine wpAnyH_ready (rs := [6]) (by kernel_rfl) (by simp) ?_
    refine AllReadyH.cons rfl (fun K hK => ?_) AllReadyH.nil
    go_simp
    refine HC3.out.mono ?_
    rintro e w5 ⟨rfl, hb5⟩
    have HB5 := Lib.hid (HB4.out.trans (hb5.mono HB4.out.size))
    have HW5 := Lib.hid (HW4.out.below hb5 (by have := HB4.out.size; have := HW4.out.lt; omega))
    have hd5 : w5.rangeAt w.heap.size 0 L := HW5.out.range
    refine hK.out _ _ hd5 (fun hHeld => ?_)
    clear hK K HC3 hb5 hd4 HB4 HW4
    clear hHeld
    have hq5 := HB5.out.size
    have HC4 := Lib.hid (Sh.ref_any none 0 0 [] w5 ⟨rfl, fun h => absurd h (by omega)⟩ (by omega) (tab0_below HT0.out HB5.out hw) (by omega))
    refine wpAnyH_ready (rs := [7]) (by kernel_rfl) (by simp) ?_
    refine AllReadyH.cons rfl (fun K hK => ?_) AllReadyH.nil
    go_simp
    refine HC4.out.mono ?_
    rintro e w6 ⟨rfl, hb6⟩
    have HB6 := Lib.hid (HB5.out.trans (hb6.mono HB5.out.size))
    have HW6 := Lib.hid (HW5.out.below hb6 (by have := HB5.out.size; have := HW5.out.lt; omega))
    have hd6 : w6.rangeAt w.heap.size 0 L := HW6.out.range
    refine hK.out _ _ hd6 (fun hHeld => ?_)
    clear hK K HC4 hb6 hd5 HB5 HW5
    obtain ⟨Yb, hYb⟩ : ∃ Yb, Sh.bcells (Sh.Sha.sum []) = Yb := ⟨_, rfl⟩
    have HYB : Hid (Sh.bcells (osum (topOf (some none))) = Yb) := Lib.hid hYb
    have HYC : Hid (Sh.bcells (Sh.Sha.sum []) = Yb) := Lib.hid hYb
    rw [hYb] at e2 ⊢
    clear hYb
    refine wpAnyH_take (i := 8) (oi := { dst := some 21, op := Op.binOp BinOp.eql 49 (Operand.tmp 19) (Operand.tmp 20) 49, type := 4, pos := "law.go:151", after := #[{ on := 6, ground := Ground.data }, { on := 7, ground := Ground.data }, { on := 5, ground := Ground.guard }], guard := some (5, true) }) (v := ?_) rfl (by kernel_rfl) (by kernel_rfl) (by kernel_rfl) (fun _ _ _ h => h) (Or.inl ⟨by rfl, ?_⟩) (by assumption) ?_
    rotate_left
    · first | (intro w hSw; (try dsimp only at hSw); go_simp; done) | (intro w hSw; (try dsimp only at hSw); go_simp; with_reducible rfl)
    simp only [Act.put, List.setIfInBounds_toArray, List.set_cons_zero, List.set_cons_succ]
    refine wpAnyH_take (i := 9) (oi := { dst := some 22, op := Op.pick (Operand.tmp 18) (Operand.tmp 21) (Operand.const (Value.bool false)), type := 4, pos := "law.go:151", after := #[{ on := 5, ground := Ground.data }, { on := 8, ground := Ground.data }], guard := none }) (v := ?_) rfl (by kernel_rfl) (by kernel_rfl) (by kernel_rfl) (fun _ _ _ h => h) (Or.inl ⟨by rfl, ?_⟩) (by assumption) ?_
    rotate_left
    · first | (intro w hSw; (try dsimp only at hSw); go_simp; done) | (intro w hSw; (try dsimp only at hSw); go_simp; with_reducible rfl)
    simp only [Act.put, List.setIfInBounds_toArray, List.set_cons_zero, List.set_cons_succ]
    refine wpAnyH_take (i := 10) (oi := { dst := some 23, op := Op.move (Operand.tmp 22), type := 4, pos := "law.go:151", after := #[{ on := 9, ground := Ground.data }, { on := 7, ground := Ground.chain }], guard := none }) (v := ?_) rfl (by kernel_rfl) (by kernel_rfl) (by kernel_rfl) (fun _ _ _ h => h) (Or.inl ⟨by rfl, ?_⟩) (by assumption) ?_
    rotate_left
    · first | (intro w hSw; (try dsimp only at hSw); go_simp; done) | (intro w hSw; (try dsimp only at hSw); go_simp; with_reducible rfl)
    simp only [Act.put, List.setIfInBounds_toArray, List.set_cons_zero, List.set_cons_succ]
    clear hHeld
    have hq6 := HB6.out.size
    have HC5 := Lib.hid (new_any (G := All) w6 (room (by omega)))
    refine wpAnyH_ready (rs := [11]) (by kernel_rfl) (by simp) ?_
    refine AllReadyH.cons rfl (fun K hK => ?_) AllReadyH.nil
    go_simp
    refine HC5.out.mono ?_
    rintro e w7 ⟨g, rfl, hg7, hT7, hb7⟩
    have HB7 := Lib.hid (HB6.out.trans (hb7.mono HB6.out.size))
    have HW7 := Lib.hid (HW6.out.below hb7 (by have := HW6.out.lt; omega))
    have hd7 : w7.rangeAt w.heap.size 0 L := HW7.out.range
    refine hK.out _ _ hd7 (fun hHeld => ?_)
    clear hK K HC5 hb7 hd6 HB6 HW6 hHeld
    have hq7 := HB7.out.size
    have HC6 := Lib.hid (root_any (G := All) (some none) (some g) w7 ⟨g, rfl, hT7⟩ (Sh.tab_below HT.out HB7.out hw) (by omega))
    clear hT7 hg7
    refine wpAnyH_ready (rs := [12]) (by kernel_rfl) (by simp) ?_
    refine AllReadyH.cons rfl (fun K hK => ?_) AllReadyH.nil
    go_simp
    refine HC6.out.mono ?_
    rintro e w8 ⟨rfl, hb8⟩
    rw [HYB.out]
    have HB8 := Lib.hid (HB7.out.trans (hb8.mono HB7.out.size))
    have HW8 := Lib.hid (HW7.out.below hb8 (by have := HB7.out.size; have := HW7.out.lt; omega))
    have hd8 : w8.rangeAt w.heap.size 0 L := HW8.out.range
    refine hK.out _ _ hd8 (fun hHeld => ?_)
    clear hK K HC6 hb8 hd7 HB7 HW7
    clear hHeld
    have hq8 := HB8.out.size
    have HC7 := Lib.hid (empty_any w8 (Sh.tab_below HT.out HB8.out hw) (by omega))
    refine wpAnyH_ready (rs := [13]) (by kernel_rfl) (by simp) ?_
    refine AllReadyH.cons rfl (fun K hK => ?_) AllReadyH.nil
    go_simp
    refine HC7.out.mono ?_
    rintro e w9 ⟨rfl, hb9⟩
    rw [HYC.out]
    have HB9 := Lib.hid (HB8.out.trans (hb9.mono HB8.out.size))
    have HW9 := Lib.hid (HW8.out.below hb9 (by have := HB8.out.size; have := HW8.out.lt; omega))
    have hd9 : w9.rangeAt w.heap.size 0 L := HW9.out.range
    refine hK.out _ _ hd9 (fun hHeld => ?_)
    clear hK K HC7 hb9 hd8 HB8 HW8
    refine wpAnyH_take (i := 14) (oi := { dst := some 27, op := Op.binOp BinOp.eql 49 (Operand.tmp 25) (Operand.tmp 26) 49, type := 4, pos := "law.go:151", after := #[{ on := 12, ground := Ground.data }, { on := 13, ground := Ground.data }, { on := 10, ground := Ground.guard }], guard := some (10, true) }) (v := ?_) rfl (by kernel_rfl) (by kernel_rfl) (by kernel_rfl) (fun _ _ _ h => h) (Or.inl ⟨by rfl, ?_⟩) (by assumption) ?_
    rotate_left
    · first | (intro w hSw; (try dsimp only at hSw); go_simp; done) | (intro w hSw; (try dsimp only at hSw); go_simp; with_reducible rfl)
    simp only [Act.put, List.setIfInBounds_toArray, List.set_cons_zero, List.set_cons_succ]
    refine wpAnyH_take (i := 15) (oi := { dst := some 28, op := Op.pick (Operand.tmp 23) (Operand.tmp 27) (Operand.const (Value.bool false)), type := 4, pos := "law.go:151", after := #[{ on := 10, ground := Ground.data }, { on := 14, ground := Ground.data }], guard := none }) (v := ?_) rfl (by kernel_rfl) (by kernel_rfl) (by kernel_rfl) (fun _ _ _ h => h) (Or.inl ⟨by rfl, ?_⟩) (by assumption) ?_
    rotate_left
    · first | (intro w hSw; (try dsimp only at hSw); go_simp; done) | (intro w hSw; (try dsimp only at hSw); go_simp; with_reducible rfl)
    simp only [Act.put, List.setIfInBounds_toArray, List.set_cons_zero, List.set_cons_succ]
    refine wpAnyH_take (i := 16) (oi := { dst := some 2, op := Op.assign (Operand.tmp 28), type := 4, pos := "law.go:151", after := #[{ on := 15, ground := Ground.data }, { on := 13, ground := Ground.chain }, { on := 0, ground := Ground.phase }, { on := 1, ground := Ground.phase }, { on := 2, ground := Ground.phase }, { on := 3, ground := Ground.phase }, { on := 4, ground := Ground.phase }, { on := 5, ground := Ground.phase }, { on := 6, ground := Ground.phase }, { on := 7, ground := Ground.phase }, { on := 8, ground := Ground.phase }, { on := 9, ground := Ground.phase }, { on := 10, ground := Ground.phase }, { on := 11, ground := Ground.phase }, { on := 12, ground := Ground.phase }, { on := 13, ground := Ground.phase }, { on := 14, ground := Ground.phase }, { on := 15, ground := Ground.phase }], guard := none }) (v := ?_) rfl (by kernel_rfl) (by kernel_rfl) (by kernel_rfl) (fun _ _ _ h => h) (Or.inl ⟨by rfl, ?_⟩) (by assumption) ?_
    rotate_left
    · first | (intro w hSw; (try dsimp only at hSw); go_simp; done) | (intro w hSw; (try dsimp only at hSw); go_simp; with_reducible rfl)
    simp only [Act.put, List.setIfInBounds_toArray, List.set_cons_zero, List.set_cons_succ]
    clear hHeld
    refine wpAnyH_done (by kernel_rfl) ?_ _
    clear hd9
    go_wp2_with fail
    go_ret
    exact ⟨rfl, HB9.out⟩
end Go.Proofs.YtceillnmcccckaaDoor
