/-
  What beside and with return: a tree with one more leaf; conditions: tree and leaf lie in memory, there are fewer than 4294967296 leaves, the table holds its words. They only make memory of their own.
-/
import Derived.Test.YtceillnmcccckaaDoorBal
namespace Go.Proofs.YtceillnmcccckaaDoor
open Go.RowKit
open Tr
variable {G : Nat → Prop}

theorem put_n (k v : List UInt8) : ∀ t : T, (t.put k v).n ≤ t.n + 1
  | .leaf k' v' => by
    show (beside (.leaf k' v') k v).n ≤ 2
    unfold beside
    split
    · exact Nat.le_refl _
    · split
      · exact Nat.le_refl _
      · show 1 ≤ 2; omega
  | .node l r => by
    have h1 := put_n k v l
    have h2 := put_n k v r
    show (if lt k r.least then bal (l.put k v) r else bal l (r.put k v)).n ≤ l.n + r.n + 1
    split
    · rw [bal_n]; omega
    · rw [bal_n]; omega

theorem NIn.keyAt {w w' : World} {B b : Nat} {t : T} (h : NIn G w B t b) (hb : Below B w w') : ∃ A n c, w'.cell? ⟨b, 0, none⟩ = some (.slice A n c) ∧ Rd w' B A n t.key := by
  obtain ⟨A, n, c, A', n', c', x, y, hh⟩ := (h.below hb (Nat.le_refl _)).has
  exact ⟨A, n, c, hh.cells.1, hh.key⟩

set_option maxRecDepth 100000 in
set_option maxHeartbeats 1000000 in
theorem beside_any (k' v' k v : List UInt8) (b bl : Nat) (w : World) (hl : NIn G w w.heap.size (.leaf k' v') b) (hr : NIn G w w.heap.size (.leaf k v) bl) (ht : Sh.Tab w 1) (hw : Room G w) :
    Calls Tryd.prog 58 #[ptr (some b), ptr (some bl)] w (NodePost G (beside (.leaf k' v') k v) w) := by
  obtain ⟨A, n, c, c0, hk⟩ := hl.keyAt (Below.refl _ _).drew
  obtain ⟨A', n', c', c0', hk'⟩ := hr.keyAt (Below.refl _ _).drew
  change w.cell? _ = _ at c0 c0'
  have HL := Lib.hid hl
  have HR := Lib.hid hr
  have HT := Lib.hid ht
  have HK := Lib.hid (compare_any A' A n' c' n c _ _ k k' w.drew hk' hk)
  have HU : Hid (beside (.leaf k' v') k v = if lt k k' then .node (.leaf k v) (.leaf k' v') else if lt k' k then .node (.leaf k' v') (.leaf k v) else .leaf k v) := Lib.hid rfl
  clear hl hr ht hk hk'
  rw [ptr_some, ptr_some]
  obtain ⟨C, hC⟩ : ∃ C, Lib.compareBytes k k' = C := ⟨_, rfl⟩
  rw [hC] at HK
  have HC := Lib.hid hC
  clear hC
  have hb1 : Below w.heap.size w w.drew := (Below.refl _ _).drew
  go_enter Tryd.func58, Tryd.ntmps58
  go_upto_region 1 with (fail)
  have hS0 : w.drew.cell? ⟨b, 0, none⟩ = some (.slice A n c) ∧ w.drew.cell? ⟨bl, 0, none⟩ = some (.slice A' n' c') := ⟨c0, c0'⟩
  refine wp_region_held_drew (S := fun w' => w'.cell? ⟨b, 0, none⟩ = some (.slice A n c) ∧ w'.cell? ⟨bl, 0, none⟩ = some (.slice A' n' c')) (by kernel_rfl) hS0 (fun hHeld => ?_)
  refine wpAnyH_take (i := 0) (oi := { dst := some 6, op := Op.move (Operand.tmp 1), type := 78, pos := "node.go:74", after := #[], guard := none }) (v := ?_) rfl (by kernel_rfl) (by kernel_rfl) (by kernel_rfl) (fun _ _ _ h => h) (Or.inl ⟨by rfl, ?_⟩) (by assumption) ?_
  rotate_left
  · first | (intro w hSw; (try dsimp only at hSw); go_simp; done) | (intro w hSw; (try dsimp only at hSw); go_simp; with_reducible rfl)
  simp only [Act.put, List.setIfInBounds_toArray, List.set_cons_zero, List.set_cons_succ]
  refine wpAnyH_take (i := 1) (oi := { dst := some 7, op := Op.nilCheck (Operand.tmp 6), type := 0, pos := "node.go:74", after := #[{ on := 0, ground := Ground.data }], guard := none }) (v := ?_) rfl (by kernel_rfl) (by kernel_rfl) (by kernel_rfl) (fun _ _ _ h => h) (Or.inl ⟨by rfl, ?_⟩) (by assumption) ?_
  rotate_left
  · first | (intro w hSw; (try dsimp only at hSw); go_simp; done) | (intro w hSw; (try dsimp only at hSw); go_simp; with_reducible rfl)
  simp only [Act.put, List.setIfInBounds_toArray, List.set_cons_zero, List.set_cons_succ]
  refine wpAnyH_take (i := 2) (oi := { dst := some 8, op := Op.fieldAddr 88 (Operand.tmp 7) 0, type := 0, pos := "node.go:74", after := #[{ on := 1, ground := Ground.data }], guard := none }) (v := ?_) rfl (by kernel_rfl) (by kernel_rfl) (by kernel_rfl) (fun _ _ _ h => h) (Or.inl ⟨by rfl, ?_⟩) (by assumption) ?_
  rotate_left
  · first | (intro w hSw; (try dsimp only at hSw); go_simp; done) | (intro w hSw; (try dsimp only at hSw); go_simp; with_reducible rfl)
  simp only [Act.put, List.setIfInBounds_toArray, List.set_cons_zero, List.set_cons_succ]
  refine wpAnyH_take (i := 3) (oi := { dst := some 9, op := Op.fieldAddr 64 (Operand.tmp 8) 0, type := 0, pos := "node.go:74", after := #[{ on := 2, ground := Ground.data }], guard := none }) (v := ?_) rfl (by kernel_rfl) (by kernel_rfl) (by kernel_rfl) (fun _ _ _ h => h) (Or.inl ⟨by rfl, ?_⟩) (by assumption) ?_
  rotate_left
  · first | (intro w hSw; (try dsimp only at hSw); go_simp; done) | (intro w hSw; (try dsimp only at hSw); go_simp; with_reducible rfl)
  simp only [Act.put, List.setIfInBounds_toArray, List.set_cons_zero, List.set_cons_succ]
  refine wpAnyH_take (i := 4) (oi := { dst := some 10, op := Op.load 27 (Operand.tmp 9), type := 27, pos := "node.go:74", after := #[{ on := 3, ground := Ground.data }], guard := none }) (v := ?_) rfl (by kernel_rfl) (by kernel_rfl) (by kernel_rfl) (fun _ _ _ h => h) (Or.inl ⟨by rfl, ?_⟩) (by assumption) ?_
  rotate_left
  · first | (intro w hSw; (try dsimp only at hSw); go_simp; done) | (intro w hSw; (try dsimp only at hSw); go_simp; with_reducible rfl)
  simp only [Act.put, List.setIfInBounds_toArray, List.set_cons_zero, List.set_cons_succ]
  refine wpAnyH_take (i := 5) (oi := { dst := some 11, op := Op.move (Operand.tmp 0), type := 78, pos := "node.go:74", after := #[], guard := none }) (v := ?_) rfl (by kernel_rfl) (by kernel_rfl) (by kernel_rfl) (fun _ _ _ h => h) (Or.inl ⟨by rfl, ?_⟩) (by assumption) ?_
  rotate_left
  · first | (intro w hSw; (try dsimp only at hSw); go_simp; done) | (intro w hSw; (try dsimp only at hSw); go_simp; with_reducible rfl)
  simp only [Act.put, List.setIfInBounds_toArray, List.set_cons_zero, List.set_cons_succ]
  refine wpAnyH_take (i := 6) (oi := { dst := some 12, op := Op.nilCheck (Operand.tmp 11), type := 0, pos := "node.go:74", after := #[{ on := 5, ground := Ground.data }], guard := none }) (v := ?_) rfl (by kernel_rfl) (by kernel_rfl) (by kernel_rfl) (fun _ _ _ h => h) (Or.inl ⟨by rfl, ?_⟩) (by assumption) ?_
  rotate_left
  · first | (intro w hSw; (try dsimp only at hSw); go_simp; done) | (intro w hSw; (try dsimp only at hSw); go_simp; with_reducible rfl)
  simp only [Act.put, List.setIfInBounds_toArray, List.set_cons_zero, List.set_cons_succ]
  refine wpAnyH_take (i := 7) (oi := { dst := some 13, op := Op.fieldAddr 88 (Operand.tmp 12) 0, type := 0, pos := "node.go:74", after := #[{ on := 6, ground := Ground.data }], guard := none }) (v := ?_) rfl (by kernel_rfl) (by kernel_rfl) (by kernel_rfl) (fun _ _ _ h => h) (Or.inl ⟨by rfl, ?_⟩) (by assumption) ?_
  rotate_left
  · first | (intro w hSw; (try dsimp only at hSw); go_simp; done) | (intro w hSw; (try dsimp only at hSw); go_simp; with_reducible rfl)
  simp only [Act.put, List.setIfInBounds_toArray, List.set_cons_zero, List.set_cons_succ]
  refine wpAnyH_take (i := 8) (oi := { dst := some 14, op := Op.fieldAddr 64 (Operand.tmp 13) 0, type := 0, pos := "node.go:74", after := #[{ on := 7, ground := Ground.data }], guard := none }) (v := ?_) rfl (by kernel_rfl) (by kernel_rfl) (by kernel_rfl) (fun _ _ _ h => h) (Or.inl ⟨by rfl, ?_⟩) (by assumption) ?_
  rotate_left
  · first | (intro w hSw; (try dsimp only at hSw); go_simp; done) | (intro w hSw; (try dsimp only at hSw); go_simp; with_reducible rfl)
  simp only [Act.put, List.setIfInBounds_toArray, List.set_cons_zero, List.set_cons_succ]
  refine wpAnyH_take (i := 9) (oi := { dst := some 15, op := Op.load 27 (Operand.tmp 14), type := 27, pos := "node.go:74", after := #[{ on := 8, ground := Ground.data }], guard := none }) (v := ?_) rfl (by kernel_rfl) (by kernel_rfl) (by kernel_rfl) (fun _ _ _ h => h) (Or.inl ⟨by rfl, ?_⟩) (by assumption) ?_
  rotate_left
  · first | (intro w hSw; (try dsimp only at hSw); go_simp; done) | (intro w hSw; (try dsimp only at hSw); go_simp; with_reducible rfl)
  simp only [Act.put, List.setIfInBounds_toArray, List.set_cons_zero, List.set_cons_succ]
  generalize w.drew = w1 at *
  clear c0 c0'
  refine wpAnyH_ready (rs := [10]) (by kernel_rfl) (by simp) ?_
  refine AllReadyH.cons rfl (fun K hK => ?_) AllReadyH.nil
  go_simp
  refine HK.out.mono ?_
  rintro e w2 ⟨rfl, rfl⟩
  refine hK.out _ _ hS0 (fun _ => ?_)
  clear hK K HK
  refine wpAnyH_take (i := 11) (oi := { dst := some 5, op := Op.assign (Operand.tmp 16), type := 3, pos := "node.go:74", after := #[{ on := 10, ground := Ground.data }, { on := 10, ground := Ground.chain }, { on := 0, ground := Ground.phase }, { on := 1, ground := Ground.phase }, { on := 2, ground := Ground.phase }, { on := 3, ground := Ground.phase }, { on := 4, ground := Ground.phase }, { on := 5, ground := Ground.phase }, { on := 6, ground := Ground.phase }, { on := 7, ground := Ground.phase }, { on := 8, ground := Ground.phase }, { on := 9, ground := Ground.phase }, { on := 10, ground := Ground.phase }], guard := none }) (v := ?_) rfl (by kernel_rfl) (by kernel_rfl) (by kernel_rfl) (fun _ _ _ h => h) (Or.inl ⟨by rfl, ?_⟩) (by assumption) ?_
  rotate_left
  · first | (intro w hSw; (try dsimp only at hSw); go_simp; done) | (intro w hSw; (try dsimp only at hSw); go_simp; with_reducible rfl)
  simp only [Act.put, List.setIfInBounds_toArray, List.set_cons_zero, List.set_cons_succ]
  refine wpAnyH_done (by kernel_rfl) ?_ _
  clear hS0 hHeld
  by_cases h1 : lt k k' = true
  · have hc : C = -1 := by rw [← HC.out]; exact cmp_lt _ _ h1
    subst hc
    have HG : Hid (beside (.leaf k' v') k v = .node (.leaf k v) (.leaf k' v')) := Lib.hid (by rw [HU.out, if_pos h1])
    clear HC h1 HU
    have HC1 := Lib.hid (above_any (.leaf k v) (.leaf k' v') bl b w1 (HR.out.on hb1) (HL.out.on hb1) (by show 1 + 1 ≤ _; omega) (Sh.tab_below HT.out hb1 hw.1) (hw.on hb1))
    rw [ptr_some, ptr_some] at HC1
    have HB1 := Lib.hid hb1
    clear hb1
    go_wp2_with fail
    refine HC1.out.mono ?_
    rintro e w2 ⟨b1, rfl, hN1, hb2⟩
    rw [ptr_some]
    have HN1 := Lib.hid hN1
    have HB2 := Lib.hid (HB1.out.trans (hb2.mono HB1.out.size))
    clear hN1 hb2 HC1 HB1
    go_wp2_with fail
    go_ret
    exact ⟨b1, rfl, by rw [HG.out]; exact HN1.out, HB2.out⟩
  · by_cases h2 : lt k' k = true
    · have hc : C = 1 := by rw [← HC.out]; exact cmp_gt _ _ h2
      subst hc
      have HG : Hid (beside (.leaf k' v') k v = .node (.leaf k' v') (.leaf k v)) := Lib.hid (by rw [HU.out, if_neg h1, if_pos h2])
      clear HC h1 h2 HU
      have HC1 := Lib.hid (above_any (.leaf k' v') (.leaf k v) b bl w1 (HL.out.on hb1) (HR.out.on hb1) (by show 1 + 1 ≤ _; omega) (Sh.tab_below HT.out hb1 hw.1) (hw.on hb1))
      rw [ptr_some, ptr_some] at HC1
      have HB1 := Lib.hid hb1
      clear hb1
      go_wp2_with fail
      refine HC1.out.mono ?_
      rintro e w2 ⟨b1, rfl, hN1, hb2⟩
      rw [ptr_some]
      have HN1 := Lib.hid hN1
      have HB2 := Lib.hid (HB1.out.trans (hb2.mono HB1.out.size))
      clear hN1 hb2 HC1 HB1
      go_wp2_with fail
      go_ret
      exact ⟨b1, rfl, by rw [HG.out]; exact HN1.out, HB2.out⟩
    · have hc : C = 0 := by
        rw [← HC.out, lt_tri k k' (by simpa using h1) (by simpa using h2)]
        exact cmp_self _
      subst hc
      have HG : Hid (beside (.leaf k' v') k v = .leaf k v) := Lib.hid (by rw [HU.out, if_neg h1, if_neg h2])
      clear HC h1 h2 HU
      have HB1 := Lib.hid hb1
      clear hb1
      go_wp2_with fail
      go_ret
      exact ⟨bl, rfl, by rw [HG.out]; exact HR.out.on HB1.out, HB1.out⟩

set_option maxRecDepth 100000 in
set_option maxHeartbeats 1000000 in
theorem with_any (k v : List UInt8) (bl : Nat) : ∀ (t : T) (b : Nat) (w : World) (_ : NIn G w w.heap.size t b) (_ : NIn G w w.heap.size (.leaf k v) bl) (_ : t.n + 1 ≤ 4294967296) (_ : Sh.Tab w 1) (_ : Room G w),
    Calls Tryd.prog 39 #[ptr (some b), ptr (some bl)] w (NodePost G (t.put k v) w)
  | .leaf k' v', b, w, hl, hr, _, ht, hw => by
    have HC1 := Lib.hid (beside_any k' v' k v b bl w hl hr ht hw)
    obtain ⟨A, n, c, A', n', c', hh⟩ := hl
    have HI := Lib.hid (isLeaf_yes hh rfl)
    clear hh hr ht
    rw [ptr_some] at HI
    rw [ptr_some, ptr_some] at HC1 ⊢
    go_enter Tryd.func39, Tryd.ntmps39
    go_wp2_with fail
    refine HI.out.mono ?_
    rintro e w1 ⟨rfl, rfl⟩
    go_wp2_with fail
    refine HC1.out.mono ?_
    rintro e w2 ⟨b1, rfl, hN1, hb2⟩
    rw [ptr_some]
    have HN1 := Lib.hid hN1
    have HB2 := Lib.hid hb2
    clear hN1 hb2 HC1
    go_wp2_with fail
    go_ret
    exact ⟨b1, rfl, HN1.out, HB2.out⟩
  | .node l r, b, w, hl, hr, hn, ht, hw => by
    obtain ⟨A, n, c, A', n', c', x, y, hh, hx, hy⟩ := hl
    obtain ⟨Ak, nk, ck, c0, hk⟩ := hr.keyAt (Below.refl _ _)
    have HI := Lib.hid (isLeaf_no hh (h_ne l r))
    have HRT := Lib.hid (fun R => isRight_any hh Ak nk ck w.heap.size k hk R)
    rw [ptr_some] at HI HRT
    have e0 : (T.node l r).n = l.n + r.n := rfl
    have HH := Lib.hid hh
    have HX := Lib.hid hx
    have HY := Lib.hid hy
    have HK := Lib.hid hr
    have HT := Lib.hid ht
    have p1 := T.n_pos l
    have p2 := T.n_pos r
    clear hh hx hy hr hk ht
    have HU : Hid ((T.node l r).put k v = if lt k r.least then bal (l.put k v) r else bal l (r.put k v)) := Lib.hid rfl
    rw [ptr_some, ptr_some]
    by_cases hlt : lt k r.least = true
    · rw [HU.out, if_pos hlt]
      have HR := Lib.hid (HRT.out false (by rw [show (T.node l r).key = r.least from rfl, hlt]; rfl))
      clear HRT HU hlt
      go_enter Tryd.func39, Tryd.ntmps39
      go_wp2_with fail
      refine HI.out.mono ?_
      rintro e w1 ⟨rfl, rfl⟩
      go_wp2_with fail
      refine HR.out.mono ?_
      rintro e w1 ⟨rfl, rfl⟩
      go_upto_region 5 with (fail)
      have hb1 : Below w.heap.size w w.drew := (Below.refl _ _).drew
      have hS0 : w.drew.cell? ⟨b, 100, none⟩ = some (.pointer (some ⟨x, 0, none⟩)) ∧ w.drew.cell? ⟨b, 101, none⟩ = some (.pointer (some ⟨y, 0, none⟩)) := HH.out.sides hb1
      refine wp_region_held_drew (S := fun w' => w'.cell? ⟨b, 100, none⟩ = some (.pointer (some ⟨x, 0, none⟩)) ∧ w'.cell? ⟨b, 101, none⟩ = some (.pointer (some ⟨y, 0, none⟩))) (by kernel_rfl) hS0 (fun hHeld => ?_)
      clear c0
      refine wpAnyH_take (i := 0) (oi := { dst := some 28, op := Op.move (Operand.tmp 0), type := 78, pos := "node.go:69", after := #[], guard := none }) (v := ?_) rfl (by kernel_rfl) (by kernel_rfl) (by kernel_rfl) (fun _ _ _ h => h) (Or.inl ⟨by rfl, ?_⟩) (by assumption) ?_
      rotate_left
      · first | (intro w hSw; (try dsimp only at hSw); go_simp; done) | (intro w hSw; (try dsimp only at hSw); go_simp; with_reducible rfl)
      simp only [Act.put, List.setIfInBounds_toArray, List.set_cons_zero, List.set_cons_succ]
      refine wpAnyH_take (i := 1) (oi := { dst := some 29, op := Op.nilCheck (Operand.tmp 28), type := 0, pos := "node.go:69", after := #[{ on := 0, ground := Ground.data }], guard := none }) (v := ?_) rfl (by kernel_rfl) (by kernel_rfl) (by kernel_rfl) (fun _ _ _ h => h) (Or.inl ⟨by rfl, ?_⟩) (by assumption) ?_
      rotate_left
      · first | (intro w hSw; (try dsimp only at hSw); go_simp; done) | (intro w hSw; (try dsimp only at hSw); go_simp; with_reducible rfl)
      simp only [Act.put, List.setIfInBounds_toArray, List.set_cons_zero, List.set_cons_succ]
      refine wpAnyH_take (i := 2) (oi := { dst := some 30, op := Op.fieldAddr 88 (Operand.tmp 29) 2, type := 0, pos := "node.go:69", after := #[{ on := 1, ground := Ground.data }], guard := none }) (v := ?_) rfl (by kernel_rfl) (by kernel_rfl) (by kernel_rfl) (fun _ _ _ h => h) (Or.inl ⟨by rfl, ?_⟩) (by assumption) ?_
      rotate_left
      · first | (intro w hSw; (try dsimp only at hSw); go_simp; done) | (intro w hSw; (try dsimp only at hSw); go_simp; with_reducible rfl)
      simp only [Act.put, List.setIfInBounds_toArray, List.set_cons_zero, List.set_cons_succ]
      refine wpAnyH_take (i := 3) (oi := { dst := some 31, op := Op.load 78 (Operand.tmp 30), type := 78, pos := "node.go:69", after := #[{ on := 2, ground := Ground.data }], guard := none }) (v := ?_) rfl (by kernel_rfl) (by kernel_rfl) (by kernel_rfl) (fun _ _ _ h => h) (Or.inl ⟨by rfl, ?_⟩) (by assumption) ?_
      rotate_left
      · first | (intro w hSw; (try dsimp only at hSw); go_simp; done) | (intro w hSw; (try dsimp only at hSw); go_simp; with_reducible rfl)
      simp only [Act.put, List.setIfInBounds_toArray, List.set_cons_zero, List.set_cons_succ]
      refine wpAnyH_take (i := 4) (oi := { dst := some 32, op := Op.move (Operand.tmp 1), type := 78, pos := "node.go:69", after := #[], guard := none }) (v := ?_) rfl (by kernel_rfl) (by kernel_rfl) (by kernel_rfl) (fun _ _ _ h => h) (Or.inl ⟨by rfl, ?_⟩) (by assumption) ?_
      rotate_left
      · first | (intro w hSw; (try dsimp only at hSw); go_simp; done) | (intro w hSw; (try dsimp only at hSw); go_simp; with_reducible rfl)
      simp only [Act.put, List.setIfInBounds_toArray, List.set_cons_zero, List.set_cons_succ]
      refine wpAnyH_take (i := 6) (oi := { dst := some 34, op := Op.move (Operand.tmp 0), type := 78, pos := "node.go:69", after := #[], guard := none }) (v := ?_) rfl (by kernel_rfl) (by kernel_rfl) (by kernel_rfl) (fun _ _ _ h => h) (Or.inl ⟨by rfl, ?_⟩) (by assumption) ?_
      rotate_left
      · first | (intro w hSw; (try dsimp only at hSw); go_simp; done) | (intro w hSw; (try dsimp only at hSw); go_simp; with_reducible rfl)
      simp only [Act.put, List.setIfInBounds_toArray, List.set_cons_zero, List.set_cons_succ]
      refine wpAnyH_take (i := 7) (oi := { dst := some 35, op := Op.nilCheck (Operand.tmp 34), type := 0, pos := "node.go:69", after := #[{ on := 6, ground := Ground.data }], guard := none }) (v := ?_) rfl (by kernel_rfl) (by kernel_rfl) (by kernel_rfl) (fun _ _ _ h => h) (Or.inl ⟨by rfl, ?_⟩) (by assumption) ?_
      rotate_left
      · first | (intro w hSw; (try dsimp only at hSw); go_simp; done) | (intro w hSw; (try dsimp only at hSw); go_simp; with_reducible rfl)
      simp only [Act.put, List.setIfInBounds_toArray, List.set_cons_zero, List.set_cons_succ]
      refine wpAnyH_take (i := 8) (oi := { dst := some 36, op := Op.fieldAddr 88 (Operand.tmp 35) 3, type := 0, pos := "node.go:69", after := #[{ on := 7, ground := Ground.data }], guard := none }) (v := ?_) rfl (by kernel_rfl) (by kernel_rfl) (by kernel_rfl) (fun _ _ _ h => h) (Or.inl ⟨by rfl, ?_⟩) (by assumption) ?_
      rotate_left
      · first | (intro w hSw; (try dsimp only at hSw); go_simp; done) | (intro w hSw; (try dsimp only at hSw); go_simp; with_reducible rfl)
      simp only [Act.put, List.setIfInBounds_toArray, List.set_cons_zero, List.set_cons_succ]
      refine wpAnyH_take (i := 9) (oi := { dst := some 37, op := Op.load 78 (Operand.tmp 36), type := 78, pos := "node.go:69", after := #[{ on := 8, ground := Ground.data }], guard := none }) (v := ?_) rfl (by kernel_rfl) (by kernel_rfl) (by kernel_rfl) (fun _ _ _ h => h) (Or.inl ⟨by rfl, ?_⟩) (by assumption) ?_
      rotate_left
      · first | (intro w hSw; (try dsimp only at hSw); go_simp; done) | (intro w hSw; (try dsimp only at hSw); go_simp; with_reducible rfl)
      simp only [Act.put, List.setIfInBounds_toArray, List.set_cons_zero, List.set_cons_succ]
      clear hS0 hHeld HR HI
      generalize w.drew = w1 at *
      have HC1 := Lib.hid (with_any k v bl l x w1 (HX.out.on hb1) (HK.out.on hb1) (by omega) (Sh.tab_below HT.out hb1 hw.1) (hw.on hb1))
      rw [ptr_some, ptr_some] at HC1
      refine wpAnyH_ready (rs := [5]) (by kernel_rfl) (by simp) ?_
      refine AllReadyH.cons rfl (fun K hK => ?_) AllReadyH.nil
      go_simp
      refine HC1.out.mono ?_
      rintro e w2 ⟨b1, rfl, hN1, hb2⟩
      rw [ptr_some]
      replace hb2 := hb1.trans (hb2.mono hb1.size)
      refine hK.out _ _ (HH.out.sides hb2) (fun _ => ?_)
      clear hK K HC1 hb1
      have HC2 := Lib.hid (bal_any (l.put k v) r b1 y w2 hN1 (HY.out.on hb2) (by have := put_n k v l; omega) (Sh.tab_below HT.out hb2 hw.1) (hw.on hb2))
      rw [ptr_some, ptr_some] at HC2
      clear hN1
      refine wpAnyH_ready (rs := [10]) (by kernel_rfl) (by simp) ?_
      refine AllReadyH.cons rfl (fun K hK => ?_) AllReadyH.nil
      go_simp
      refine HC2.out.mono ?_
      rintro e w3 ⟨b2, rfl, hN2, hb3⟩
      rw [ptr_some]
      replace hb3 := hb2.trans (hb3.mono hb2.size)
      have hHeld := HH.out.sides hb3
      refine hK.out _ _ hHeld (fun _ => ?_)
      clear hK K HC2 hb2
      have HN2 := Lib.hid hN2
      have HB3 := Lib.hid hb3
      clear hN2 hb3
      refine wpAnyH_take (i := 11) (oi := { dst := some 4, op := Op.assign (Operand.tmp 38), type := 78, pos := "node.go:69", after := #[{ on := 10, ground := Ground.data }, { on := 10, ground := Ground.chain }, { on := 0, ground := Ground.phase }, { on := 1, ground := Ground.phase }, { on := 2, ground := Ground.phase }, { on := 3, ground := Ground.phase }, { on := 4, ground := Ground.phase }, { on := 5, ground := Ground.phase }, { on := 6, ground := Ground.phase }, { on := 7, ground := Ground.phase }, { on := 8, ground := Ground.phase }, { on := 9, ground := Ground.phase }, { on := 10, ground := Ground.phase }], guard := none }) (v := ?_) rfl (by kernel_rfl) (by kernel_rfl) (by kernel_rfl) (fun _ _ _ h => h) (Or.inl ⟨by rfl, ?_⟩) (by assumption) ?_
      rotate_left
      · first | (intro w hSw; (try dsimp only at hSw); go_simp; done) | (intro w hSw; (try dsimp only at hSw); go_simp; with_reducible rfl)
      simp only [Act.put, List.setIfInBounds_toArray, List.set_cons_zero, List.set_cons_succ]
      refine wpAnyH_done (by kernel_rfl) ?_ _
      clear hHeld
      go_wp2_with fail
      go_ret
      exact ⟨b2, rfl, HN2.out, HB3.out⟩
    · rw [HU.out, if_neg hlt]
      have HR := Lib.hid (HRT.out true (by rw [show (T.node l r).key = r.least from rfl]; simpa using hlt))
      clear HRT HU hlt
      go_enter Tryd.func39, Tryd.ntmps39
      go_wp2_with fail
      refine HI.out.mono ?_
      rintro e w1 ⟨rfl, rfl⟩
      go_wp2_with fail
      refine HR.out.mono ?_
      rintro e w1 ⟨rfl, rfl⟩
      go_upto_region 4 with (fail)
      have hb1 : Below w.heap.size w w.drew := (Below.refl _ _).drew
      have hS0 : w.drew.cell? ⟨b, 100, none⟩ = some (.pointer (some ⟨x, 0, none⟩)) ∧ w.drew.cell? ⟨b, 101, none⟩ = some (.pointer (some ⟨y, 0, none⟩)) := HH.out.sides hb1
      refine wp_region_held_drew (S := fun w' => w'.cell? ⟨b, 100, none⟩ = some (.pointer (some ⟨x, 0, none⟩)) ∧ w'.cell? ⟨b, 101, none⟩ = some (.pointer (some ⟨y, 0, none⟩))) (by kernel_rfl) hS0 (fun hHeld => ?_)
      clear c0
      refine wpAnyH_take (i := 0) (oi := { dst := some 17, op := Op.move (Operand.tmp 0), type := 78, pos := "node.go:67", after := #[], guard := none }) (v := ?_) rfl (by kernel_rfl) (by kernel_rfl) (by kernel_rfl) (fun _ _ _ h => h) (Or.inl ⟨by rfl, ?_⟩) (by assumption) ?_
      rotate_left
      · first | (intro w hSw; (try dsimp only at hSw); go_simp; done) | (intro w hSw; (try dsimp only at hSw); go_simp; with_reducible rfl)
      simp only [Act.put, List.setIfInBounds_toArray, List.set_cons_zero, List.set_cons_succ]
      refine wpAnyH_take (i := 1) (oi := { dst := some 18, op := Op.nilCheck (Operand.tmp 17), type := 0, pos := "node.go:67", after := #[{ on := 0, ground := Ground.data }], guard := none }) (v := ?_) rfl (by kernel_rfl) (by kernel_rfl) (by kernel_rfl) (fun _ _ _ h => h) (Or.inl ⟨by rfl, ?_⟩) (by assumption) ?_
      rotate_left
      · first | (intro w hSw; (try dsimp only at hSw); go_simp; done) | (intro w hSw; (try dsimp only at hSw); go_simp; with_reducible rfl)
      simp only [Act.put, List.setIfInBounds_toArray, List.set_cons_zero, List.set_cons_succ]
      refine wpAnyH_take (i := 2) (oi := { dst := some 19, op := Op.fieldAddr 88 (Operand.tmp 18) 2, type := 0, pos := "node.go:67", after := #[{ on := 1, ground := Ground.data }], guard := none }) (v := ?_) rfl (by kernel_rfl) (by kernel_rfl) (by kernel_rfl) (fun _ _ _ h => h) (Or.inl ⟨by rfl, ?_⟩) (by assumption) ?_
      rotate_left
      · first | (intro w hSw; (try dsimp only at hSw); go_simp; done) | (intro w hSw; (try dsimp only at hSw); go_simp; with_reducible rfl)
      simp only [Act.put, List.setIfInBounds_toArray, List.set_cons_zero, List.set_cons_succ]
      refine wpAnyH_take (i := 3) (oi := { dst := some 20, op := Op.load 78 (Operand.tmp 19), type := 78, pos := "node.go:67", after := #[{ on := 2, ground := Ground.data }], guard := none }) (v := ?_) rfl (by kernel_rfl) (by kernel_rfl) (by kernel_rfl) (fun _ _ _ h => h) (Or.inl ⟨by rfl, ?_⟩) (by assumption) ?_
      rotate_left
      · first | (intro w hSw; (try dsimp only at hSw); go_simp; done) | (intro w hSw; (try dsimp only at hSw); go_simp; with_reducible rfl)
      simp only [Act.put, List.setIfInBounds_toArray, List.set_cons_zero, List.set_cons_succ]
      refine wpAnyH_take (i := 4) (oi := { dst := some 21, op := Op.move (Operand.tmp 0), type := 78, pos := "node.go:67", after := #[], guard := none }) (v := ?_) rfl (by kernel_rfl) (by kernel_rfl) (by kernel_rfl) (fun _ _ _ h => h) (Or.inl ⟨by rfl, ?_⟩) (by assumption) ?_
      rotate_left
      · first | (intro w hSw; (try dsimp only at hSw); go_simp; done) | (intro w hSw; (try dsimp only at hSw); go_simp; with_reducible rfl)
      simp only [Act.put, List.setIfInBounds_toArray, List.set_cons_zero, List.set_cons_succ]
      refine wpAnyH_take (i := 5) (oi := { dst := some 22, op := Op.nilCheck (Operand.tmp 21), type := 0, pos := "node.go:67", after := #[{ on := 4, ground := Ground.data }], guard := none }) (v := ?_) rfl (by kernel_rfl) (by kernel_rfl) (by kernel_rfl) (fun _ _ _ h => h) (Or.inl ⟨by rfl, ?_⟩) (by assumption) ?_
      rotate_left
      · first | (intro w hSw; (try dsimp only at hSw); go_simp; done) | (intro w hSw; (try dsimp only at hSw); go_simp; with_reducible rfl)
      simp only [Act.put, List.setIfInBounds_toArray, List.set_cons_zero, List.set_cons_succ]
      refine wpAnyH_take (i := 6) (oi := { dst := some 23, op := Op.fieldAddr 88 (Operand.tmp 22) 3, type := 0, pos := "node.go:67", after := #[{ on := 5, ground := Ground.data }], guard := none }) (v := ?_) rfl (by kernel_rfl) (by kernel_rfl) (by kernel_rfl) (fun _ _ _ h => h) (Or.inl ⟨by rfl, ?_⟩) (by assumption) ?_
      rotate_left
      · first | (intro w hSw; (try dsimp only at hSw); go_simp; done) | (intro w hSw; (try dsimp only at hSw); go_simp; with_reducible rfl)
      simp only [Act.put, List.setIfInBounds_toArray, List.set_cons_zero, List.set_cons_succ]
      refine wpAnyH_take (i := 7) (oi := { dst := some 24, op := Op.load 78 (Operand.tmp 23), type := 78, pos := "node.go:67", after := #[{ on := 6, ground := Ground.data }], guard := none }) (v := ?_) rfl (by kernel_rfl) (by kernel_rfl) (by kernel_rfl) (fun _ _ _ h => h) (Or.inl ⟨by rfl, ?_⟩) (by assumption) ?_
      rotate_left
      · first | (intro w hSw; (try dsimp only at hSw); go_simp; done) | (intro w hSw; (try dsimp only at hSw); go_simp; with_reducible rfl)
      simp only [Act.put, List.setIfInBounds_toArray, List.set_cons_zero, List.set_cons_succ]
      refine wpAnyH_take (i := 8) (oi := { dst := some 25, op := Op.move (Operand.tmp 1), type := 78, pos := "node.go:67", after := #[], guard := none }) (v := ?_) rfl (by kernel_rfl) (by kernel_rfl) (by kernel_rfl) (fun _ _ _ h => h) (Or.inl ⟨by rfl, ?_⟩) (by assumption) ?_
      rotate_left
      · first | (intro w hSw; (try dsimp only at hSw); go_simp; done) | (intro w hSw; (try dsimp only at hSw); go_simp; with_reducible rfl)
      simp only [Act.put, List.setIfInBounds_toArray, List.set_cons_zero, List.set_cons_succ]
      clear hS0 hHeld HR HI
      generalize w.drew = w1 at *
      have HC1 := Lib.hid (with_any k v bl r y w1 (HY.out.on hb1) (HK.out.on hb1) (by omega) (Sh.tab_below HT.out hb1 hw.1) (hw.on hb1))
      rw [ptr_some, ptr_some] at HC1
      refine wpAnyH_ready (rs := [9]) (by kernel_rfl) (by simp) ?_
      refine AllReadyH.cons rfl (fun K hK => ?_) AllReadyH.nil
      go_simp
      refine HC1.out.mono ?_
      rintro e w2 ⟨b1, rfl, hN1, hb2⟩
      rw [ptr_some]
      replace hb2 := hb1.trans (hb2.mono hb1.size)
      refine hK.out _ _ (HH.out.sides hb2) (fun _ => ?_)
      clear hK K HC1 hb1
      have HC2 := Lib.hid (bal_any l (r.put k v) x b1 w2 (HX.out.on hb2) hN1 (by have := put_n k v r; omega) (Sh.tab_below HT.out hb2 hw.1) (hw.on hb2))
      rw [ptr_some, ptr_some] at HC2
      clear hN1
      refine wpAnyH_ready (rs := [10]) (by kernel_rfl) (by simp) ?_
      refine AllReadyH.cons rfl (fun K hK => ?_) AllReadyH.nil
      go_simp
      refine HC2.out.mono ?_
      rintro e w3 ⟨b2, rfl, hN2, hb3⟩
      rw [ptr_some]
      replace hb3 := hb2.trans (hb3.mono hb2.size)
      have hHeld := HH.out.sides hb3
      refine hK.out _ _ hHeld (fun _ => ?_)
      clear hK K HC2 hb2
      have HN2 := Lib.hid hN2
      have HB3 := Lib.hid hb3
      clear hN2 hb3
      refine wpAnyH_take (i := 11) (oi := { dst := some 4, op := Op.assign (Operand.tmp 27), type := 78, pos := "node.go:67", after := #[{ on := 10, ground := Ground.data }, { on := 10, ground := Ground.chain }, { on := 0, ground := Ground.phase }, { on := 1, ground := Ground.phase }, { on := 2, ground := Ground.phase }, { on := 3, ground := Ground.phase }, { on := 4, ground := Ground.phase }, { on := 5, ground := Ground.phase }, { on := 6, ground := Ground.phase }, { on := 7, ground := Ground.phase }, { on := 8, ground := Ground.phase }, { on := 9, ground := Ground.phase }, { on := 10, ground := Ground.phase }], guard := none }) (v := ?_) rfl (by kernel_rfl) (by kernel_rfl) (by kernel_rfl) (fun _ _ _ h => h) (Or.inl ⟨by rfl, ?_⟩) (by assumption) ?_
      rotate_left
      · first | (intro w hSw; (try dsimp only at hSw); go_simp; done) | (intro w hSw; (try dsimp only at hSw); go_simp; with_reducible rfl)
      simp only [Act.put, List.setIfInBounds_toArray, List.set_cons_zero, List.set_cons_succ]
      refine wpAnyH_done (by kernel_rfl) ?_ _
      clear hHeld
      go_wp2_with fail
      go_ret
      exact ⟨b2, rfl, HN2.out, HB3.out⟩
end Go.Proofs.YtceillnmcccckaaDoor
