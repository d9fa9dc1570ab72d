/-
  What the document's Put and Cut return: a tree in which a key has a value, and one without a key; conditions: the tree and the bytes lie in memory, there are fewer than 4294967296 leaves. They only make memory of their own.
-/
import Derived.Test.YtbhmldoehgkhfaaDoorRBal
import Derived.Test.YtbhmldoehgkhfaaDoorFindA
namespace Go.Proofs.YtbhmldoehgkhfaaDoor
open Go.RowKit
open Tr

set_option maxRecDepth 100000 in
theorem rput_nil (D : Option Addr) (m d : Nat) (E : Option Addr) (me ce : Nat) (k v : List UInt8) (hmd : m ≤ d) (hm : m ≤ 2000) (hme : me ≤ ce) (hm2 : me ≤ 2000) (w : World) (hk : Rd w w.heap.size D m k) (hv : Rd w w.heap.size E me v) :
    Calls Tryd.prog 16 #[.pointer none, .slice D m d, .slice E me ce] w (RNodePost (.leaf k v) w) := by
  have hbm : Below w.heap.size w (w.alloc (.cells #[.slice D m d, .slice E me ce, .int .i64 0, .int .u64 1, .pointer none, .pointer none] 62)) := (Below.refl _ _).alloc (Nat.le_refl _) _
  have hwm := Whole.made w 62 #[.slice D m d, .slice E me ce, .int .i64 0, .int .u64 1, .pointer none, .pointer none]
  have hsm : (w.alloc (.cells #[.slice D m d, .slice E me ce, .int .i64 0, .int .u64 1, .pointer none, .pointer none] 62)).heap.size = w.heap.size + 1 := size_alloc _ _
  have HLF : Hid (RIn (w.alloc (.cells #[.slice D m d, .slice E me ce, .int .i64 0, .int .u64 1, .pointer none, .pointer none] 62)) (w.alloc (.cells #[.slice D m d, .slice E me ce, .int .i64 0, .int .u64 1, .pointer none, .pointer none] 62)).heap.size (.leaf k v) w.heap.size) := Lib.hid ⟨D, m, d, E, me, ce, ⟨by omega, hwm, (hk.below hbm (Nat.le_refl _)).more (by omega), hmd, hm, (hv.below hbm (Nat.le_refl _)).more (by omega), hme, hm2⟩⟩
  have hz62 : ∀ w, (zeroValue 62).run Tryd.prog w = .ok (.agg #[.slice none 0 0, .slice none 0 0, .int .i64 0, .int .u64 0, .pointer none, .pointer none]) w := zero62
  have HB := Lib.hid hbm
  clear hbm hwm hsm hk hv
  go_enter Tryd.func16, Tryd.ntmps16
  go_wp2_with fail
  go_ret
  exact ⟨w.heap.size, rfl, HLF.out, HB.out⟩

set_option maxRecDepth 100000 in
set_option maxHeartbeats 2000000 in
theorem rput_any (D : Option Addr) (m d : Nat) (E : Option Addr) (me ce : Nat) (k v : List UInt8) (hmd : m ≤ d) (hm : m ≤ 2000) (hme : me ≤ ce) (hm2 : me ≤ 2000) : ∀ (t : T) (b : Nat) (w : World) (_ : RIn w w.heap.size t b) (_ : Rd w w.heap.size D m k) (_ : Rd w w.heap.size E me v) (_ : t.n + 1 ≤ 4294967296),
    Calls Tryd.prog 16 #[ptr (some b), .slice D m d, .slice E me ce] w (RNodePost (t.put k v) w)
  | .leaf k' v', b, w, hl, hk, hv, _ => by
    have hbm : Below w.heap.size w (w.alloc (.cells #[.slice D m d, .slice E me ce, .int .i64 0, .int .u64 1, .pointer none, .pointer none] 62)) := (Below.refl _ _).alloc (Nat.le_refl _) _
    have hwm := Whole.made w 62 #[.slice D m d, .slice E me ce, .int .i64 0, .int .u64 1, .pointer none, .pointer none]
    have hsm : (w.alloc (.cells #[.slice D m d, .slice E me ce, .int .i64 0, .int .u64 1, .pointer none, .pointer none] 62)).heap.size = w.heap.size + 1 := size_alloc _ _
    have HLF : Hid (RIn (w.alloc (.cells #[.slice D m d, .slice E me ce, .int .i64 0, .int .u64 1, .pointer none, .pointer none] 62)) (w.alloc (.cells #[.slice D m d, .slice E me ce, .int .i64 0, .int .u64 1, .pointer none, .pointer none] 62)).heap.size (.leaf k v) w.heap.size) := Lib.hid ⟨D, m, d, E, me, ce, ⟨by omega, hwm, (hk.below hbm (Nat.le_refl _)).more (by omega), hmd, hm, (hv.below hbm (Nat.le_refl _)).more (by omega), hme, hm2⟩⟩
    have hz62 : ∀ w, (zeroValue 62).run Tryd.prog w = .ok (.agg #[.slice none 0 0, .slice none 0 0, .int .i64 0, .int .u64 0, .pointer none, .pointer none]) w := zero62
    have HO := Lib.hid (hl.on hbm)
    obtain ⟨A, n, c, A', n', c', hh⟩ := hl
    have hh1 := hh.below hbm (Nat.le_refl _)
    have c0 := hh1.cells.1
    have c2 : (w.alloc (.cells #[.slice D m d, .slice E me ce, .int .i64 0, .int .u64 1, .pointer none, .pointer none] 62)).cell? ⟨b, 2, none⟩ = some (.int .i64 0) := hh1.cells.2.2.1
    have HB := Lib.hid hbm
    have s1 := fun j => run_string ((w.alloc (.cells #[.slice D m d, .slice E me ce, .int .i64 0, .int .u64 1, .pointer none, .pointer none] 62)).drewN j) _ D m d k ((hk.below hbm (Nat.le_refl _)).drewN j)
    have s2 := fun j => run_string ((w.alloc (.cells #[.slice D m d, .slice E me ce, .int .i64 0, .int .u64 1, .pointer none, .pointer none] 62)).drewN j) _ A n c k' (hh1.key.drewN j)
    have HU : Hid ((T.leaf k' v').put k v = if lt k k' then .node (.leaf k v) (.leaf k' v') else if lt k' k then .node (.leaf k' v') (.leaf k v) else .leaf k v) := Lib.hid rfl
    clear hbm hwm hsm hk hv hh hh1
    rw [ptr_some]
    go_enter Tryd.func16, Tryd.ntmps16
    go_upto_region 2 with (fail)
    clear hz62
    generalize w.alloc (.cells #[.slice D m d, .slice E me ce, .int .i64 0, .int .u64 1, .pointer none, .pointer none] 62) = w1 at *
    by_cases hkk : k = k'
    · have hq : (k == k') = true := by simpa using hkk
      have HG : Hid ((T.leaf k' v').put k v = .leaf k v) := Lib.hid (by rw [HU.out, hkk, if_neg (by rw [lt_irrefl]; simp), if_neg (by rw [lt_irrefl]; simp)])
      clear HU
      go_wp2_with fail
      go_quiet (fail)
      rename Nat => nq
      have HLF2 : Hid (RIn (w1.drewN nq) (w1.drewN nq).heap.size (.leaf k v) w.heap.size) := Lib.hid (HLF.out.on (below_drewN (Below.refl _ _) _))
      have HB2 := Lib.hid (below_drewN HB.out nq)
      clear s1 s2 c0 c2
      generalize w1.drewN nq = w2 at *
      go_wp2_with fail
      go_ret
      exact ⟨w.heap.size, rfl, by rw [HG.out]; exact HLF2.out, HB2.out⟩
    · have hq : (k == k') = false := by simpa using hkk
      by_cases hlt : lt k k' = true
      · have hq2 : Go.Op.bytesLess k k' = true := hlt
        have HG : Hid ((T.leaf k' v').put k v = .node (.leaf k v) (.leaf k' v')) := Lib.hid (by rw [HU.out, if_pos hlt])
        clear HU
        go_wp2_with fail
        go_quiet (fail)
        rename Nat => nq1
        go_wp2_with fail
        go_quiet (fail)
        rename Nat => nq2
        have hbq : Below w1.heap.size w1 ((w1.drewN nq1).drewN nq2) := below_drewN (below_drewN (Below.refl _ _) _) _
        have HBQ := Lib.hid (HB.out.trans (hbq.mono HB.out.size))
        clear s1 s2 c0 c2
        generalize (w1.drewN nq1).drewN nq2 = w2 at *
        have HC := Lib.hid (rabove_any (.leaf k v) (.leaf k' v') w.heap.size b w2 (HLF.out.on hbq) (HO.out.on hbq) (by show 1 + 1 ≤ _; omega))
        rw [ptr_some, ptr_some] at HC
        clear hbq
        go_wp2_with fail
        refine HC.out.mono ?_
        rintro e w3 ⟨c1, rfl, hN1, hb3⟩
        rw [ptr_some]
        have HN1 := Lib.hid hN1
        have HB3 := Lib.hid (HBQ.out.trans (hb3.mono HBQ.out.size))
        clear hN1 hb3 HC
        go_wp2_with fail
        go_ret
        exact ⟨c1, rfl, by rw [HG.out]; exact HN1.out, HB3.out⟩
      · have hq2 : Go.Op.bytesLess k k' = false := (Bool.not_eq_true _).mp hlt
        have HG : Hid ((T.leaf k' v').put k v = .node (.leaf k' v') (.leaf k v)) := Lib.hid (by rw [HU.out, if_neg hlt, if_pos (lt_of_not ((Bool.not_eq_true _).mp hlt) hkk)])
        clear HU
        go_wp2_with fail
        go_quiet (fail)
        rename Nat => nq1
        go_wp2_with fail
        go_quiet (fail)
        rename Nat => nq2
        have hbq : Below w1.heap.size w1 ((w1.drewN nq1).drewN nq2) := below_drewN (below_drewN (Below.refl _ _) _) _
        have HBQ := Lib.hid (HB.out.trans (hbq.mono HB.out.size))
        clear s1 s2 c0 c2
        generalize (w1.drewN nq1).drewN nq2 = w2 at *
        have HC := Lib.hid (rabove_any (.leaf k' v') (.leaf k v) b w.heap.size w2 (HO.out.on hbq) (HLF.out.on hbq) (by show 1 + 1 ≤ _; omega))
        rw [ptr_some, ptr_some] at HC
        clear hbq
        go_wp2_with fail
        refine HC.out.mono ?_
        rintro e w3 ⟨c1, rfl, hN1, hb3⟩
        rw [ptr_some]
        have HN1 := Lib.hid hN1
        have HB3 := Lib.hid (HBQ.out.trans (hb3.mono HBQ.out.size))
        clear hN1 hb3 HC
        go_wp2_with fail
        go_ret
        exact ⟨c1, rfl, by rw [HG.out]; exact HN1.out, HB3.out⟩
  | .node l r, b, w, hl, hk, hv, hn => by
    have hb0 := hl.lt
    have hbm : Below w.heap.size w (w.alloc (.cells #[.slice D m d, .slice E me ce, .int .i64 0, .int .u64 1, .pointer none, .pointer none] 62)) := (Below.refl _ _).alloc (Nat.le_refl _) _
    have hwm := Whole.made w 62 #[.slice D m d, .slice E me ce, .int .i64 0, .int .u64 1, .pointer none, .pointer none]
    have hsm : (w.alloc (.cells #[.slice D m d, .slice E me ce, .int .i64 0, .int .u64 1, .pointer none, .pointer none] 62)).heap.size = w.heap.size + 1 := size_alloc _ _
    have HLF : Hid (RIn (w.alloc (.cells #[.slice D m d, .slice E me ce, .int .i64 0, .int .u64 1, .pointer none, .pointer none] 62)) (w.alloc (.cells #[.slice D m d, .slice E me ce, .int .i64 0, .int .u64 1, .pointer none, .pointer none] 62)).heap.size (.leaf k v) w.heap.size) := Lib.hid ⟨D, m, d, E, me, ce, ⟨by omega, hwm, (hk.below hbm (Nat.le_refl _)).more (by omega), hmd, hm, (hv.below hbm (Nat.le_refl _)).more (by omega), hme, hm2⟩⟩
    have hz62 : ∀ w, (zeroValue 62).run Tryd.prog w = .ok (.agg #[.slice none 0 0, .slice none 0 0, .int .i64 0, .int .u64 0, .pointer none, .pointer none]) w := zero62
    clear HLF hwm
    obtain ⟨A, n, c, A', n', c', x, y, hh, hx, hy⟩ := hl
    have hh1 := hh.below hbm (Nat.le_refl _)
    have c0 := hh1.cells.1
    have c2 := hh1.cells.2.2.1
    have hne := h_ne l r
    have hz : (((T.node l r).h : Int) == 0) = false := by rw [beq_eq_false_iff_ne]; omega
    have HB := Lib.hid hbm
    have s1 := fun j => run_string ((w.alloc (.cells #[.slice D m d, .slice E me ce, .int .i64 0, .int .u64 1, .pointer none, .pointer none] 62)).drewN j) _ D m d k ((hk.below hbm (Nat.le_refl _)).drewN j)
    have s2 := fun j => run_string ((w.alloc (.cells #[.slice D m d, .slice E me ce, .int .i64 0, .int .u64 1, .pointer none, .pointer none] 62)).drewN j) _ A n c r.least (hh1.key.drewN j)
    have HU : Hid ((T.node l r).put k v = if lt k r.least then bal (l.put k v) r else bal l (r.put k v)) := Lib.hid rfl
    have HSD : Hid (∀ u, Below w.heap.size w u → u.cell? ⟨b, 4, none⟩ = some (.pointer (some ⟨x, 0, none⟩)) ∧ u.cell? ⟨b, 5, none⟩ = some (.pointer (some ⟨y, 0, none⟩))) := Lib.hid (fun u hu => hh.sides hu)
    have HX := Lib.hid hx
    have HY := Lib.hid hy
    have HK := Lib.hid hk
    have HV := Lib.hid hv
    have p1 := T.n_pos l
    have p2 := T.n_pos r
    change (l.n + r.n) + 1 ≤ _ at hn
    clear hbm hsm hk hv hh hh1 hx hy hne
    rw [ptr_some]
    generalize (T.node l r).h = H at *
    by_cases hlt : lt k r.least = true
    · have hq : Go.Op.bytesLess k r.least = true := hlt
      rw [HU.out, if_pos hlt]
      clear HU
      go_enter Tryd.func16, Tryd.ntmps16
      go_upto_region 2 with (fail)
      clear hz62
      generalize w.alloc (.cells #[.slice D m d, .slice E me ce, .int .i64 0, .int .u64 1, .pointer none, .pointer none] 62) = w1 at *
      go_wp2_with fail
      go_quiet (fail)
      rename Nat => nq
      have HBQ := Lib.hid (below_drewN HB.out nq)
      clear s1 s2 c0 c2
      generalize w1.drewN nq = wq at *
      go_upto_region 11 with (fail)
      have hbd : Below w.heap.size w wq.drew := HBQ.out.drew
      have hS0 := HSD.out wq.drew hbd
      refine wp_region_held_drew (S := fun u => u.cell? ⟨b, 4, none⟩ = some (.pointer (some ⟨x, 0, none⟩)) ∧ u.cell? ⟨b, 5, none⟩ = some (.pointer (some ⟨y, 0, none⟩))) (by kernel_rfl) hS0 (fun hHeld => ?_)
      refine wpAnyH_take (i := 0) (oi := { dst := some 51, op := Op.move (Operand.tmp 0), type := 26, pos := "ref.go:97", after := #[], guard := none }) (v := ?_) rfl (by kernel_rfl) (by kernel_rfl) (by kernel_rfl) (fun _ _ _ h => h) (Or.inl ⟨by rfl, ?_⟩) (by assumption) ?_
      rotate_left
      · first | (intro w hSw; (try dsimp only at hSw); go_simp; done) | (intro w hSw; (try dsimp only at hSw); go_simp; with_reducible rfl)
      simp only [Act.put, List.setIfInBounds_toArray, List.set_cons_zero, List.set_cons_succ]
      refine wpAnyH_take (i := 1) (oi := { dst := some 52, op := Op.nilCheck (Operand.tmp 51), type := 0, pos := "ref.go:97", after := #[{ on := 0, ground := Ground.data }], guard := none }) (v := ?_) rfl (by kernel_rfl) (by kernel_rfl) (by kernel_rfl) (fun _ _ _ h => h) (Or.inl ⟨by rfl, ?_⟩) (by assumption) ?_
      rotate_left
      · first | (intro w hSw; (try dsimp only at hSw); go_simp; done) | (intro w hSw; (try dsimp only at hSw); go_simp; with_reducible rfl)
      simp only [Act.put, List.setIfInBounds_toArray, List.set_cons_zero, List.set_cons_succ]
      refine wpAnyH_take (i := 2) (oi := { dst := some 53, op := Op.fieldAddr 62 (Operand.tmp 52) 4, type := 0, pos := "ref.go:97", after := #[{ on := 1, ground := Ground.data }], guard := none }) (v := ?_) rfl (by kernel_rfl) (by kernel_rfl) (by kernel_rfl) (fun _ _ _ h => h) (Or.inl ⟨by rfl, ?_⟩) (by assumption) ?_
      rotate_left
      · first | (intro w hSw; (try dsimp only at hSw); go_simp; done) | (intro w hSw; (try dsimp only at hSw); go_simp; with_reducible rfl)
      simp only [Act.put, List.setIfInBounds_toArray, List.set_cons_zero, List.set_cons_succ]
      refine wpAnyH_take (i := 3) (oi := { dst := some 54, op := Op.load 26 (Operand.tmp 53), type := 26, pos := "ref.go:97", after := #[{ on := 2, ground := Ground.data }], guard := none }) (v := ?_) rfl (by kernel_rfl) (by kernel_rfl) (by kernel_rfl) (fun _ _ _ h => h) (Or.inl ⟨by rfl, ?_⟩) (by assumption) ?_
      rotate_left
      · first | (intro w hSw; (try dsimp only at hSw); go_simp; done) | (intro w hSw; (try dsimp only at hSw); go_simp; with_reducible rfl)
      simp only [Act.put, List.setIfInBounds_toArray, List.set_cons_zero, List.set_cons_succ]
      refine wpAnyH_take (i := 4) (oi := { dst := some 55, op := Op.move (Operand.tmp 1), type := 27, pos := "ref.go:97", after := #[], guard := none }) (v := ?_) rfl (by kernel_rfl) (by kernel_rfl) (by kernel_rfl) (fun _ _ _ h => h) (Or.inl ⟨by rfl, ?_⟩) (by assumption) ?_
      rotate_left
      · first | (intro w hSw; (try dsimp only at hSw); go_simp; done) | (intro w hSw; (try dsimp only at hSw); go_simp; with_reducible rfl)
      simp only [Act.put, List.setIfInBounds_toArray, List.set_cons_zero, List.set_cons_succ]
      refine wpAnyH_take (i := 5) (oi := { dst := some 56, op := Op.move (Operand.tmp 2), type := 27, pos := "ref.go:97", after := #[], guard := none }) (v := ?_) rfl (by kernel_rfl) (by kernel_rfl) (by kernel_rfl) (fun _ _ _ h => h) (Or.inl ⟨by rfl, ?_⟩) (by assumption) ?_
      rotate_left
      · first | (intro w hSw; (try dsimp only at hSw); go_simp; done) | (intro w hSw; (try dsimp only at hSw); go_simp; with_reducible rfl)
      simp only [Act.put, List.setIfInBounds_toArray, List.set_cons_zero, List.set_cons_succ]
      refine wpAnyH_take (i := 7) (oi := { dst := some 58, op := Op.move (Operand.tmp 0), type := 26, pos := "ref.go:97", after := #[], guard := none }) (v := ?_) rfl (by kernel_rfl) (by kernel_rfl) (by kernel_rfl) (fun _ _ _ h => h) (Or.inl ⟨by rfl, ?_⟩) (by assumption) ?_
      rotate_left
      · first | (intro w hSw; (try dsimp only at hSw); go_simp; done) | (intro w hSw; (try dsimp only at hSw); go_simp; with_reducible rfl)
      simp only [Act.put, List.setIfInBounds_toArray, List.set_cons_zero, List.set_cons_succ]
      refine wpAnyH_take (i := 8) (oi := { dst := some 59, op := Op.nilCheck (Operand.tmp 58), type := 0, pos := "ref.go:97", after := #[{ on := 7, ground := Ground.data }], guard := none }) (v := ?_) rfl (by kernel_rfl) (by kernel_rfl) (by kernel_rfl) (fun _ _ _ h => h) (Or.inl ⟨by rfl, ?_⟩) (by assumption) ?_
      rotate_left
      · first | (intro w hSw; (try dsimp only at hSw); go_simp; done) | (intro w hSw; (try dsimp only at hSw); go_simp; with_reducible rfl)
      simp only [Act.put, List.setIfInBounds_toArray, List.set_cons_zero, List.set_cons_succ]
      refine wpAnyH_take (i := 9) (oi := { dst := some 60, op := Op.fieldAddr 62 (Operand.tmp 59) 5, type := 0, pos := "ref.go:97", after := #[{ on := 8, ground := Ground.data }], guard := none }) (v := ?_) rfl (by kernel_rfl) (by kernel_rfl) (by kernel_rfl) (fun _ _ _ h => h) (Or.inl ⟨by rfl, ?_⟩) (by assumption) ?_
      rotate_left
      · first | (intro w hSw; (try dsimp only at hSw); go_simp; done) | (intro w hSw; (try dsimp only at hSw); go_simp; with_reducible rfl)
      simp only [Act.put, List.setIfInBounds_toArray, List.set_cons_zero, List.set_cons_succ]
      refine wpAnyH_take (i := 10) (oi := { dst := some 61, op := Op.load 26 (Operand.tmp 60), type := 26, pos := "ref.go:97", after := #[{ on := 9, ground := Ground.data }], guard := none }) (v := ?_) rfl (by kernel_rfl) (by kernel_rfl) (by kernel_rfl) (fun _ _ _ h => h) (Or.inl ⟨by rfl, ?_⟩) (by assumption) ?_
      rotate_left
      · first | (intro w hSw; (try dsimp only at hSw); go_simp; done) | (intro w hSw; (try dsimp only at hSw); go_simp; with_reducible rfl)
      simp only [Act.put, List.setIfInBounds_toArray, List.set_cons_zero, List.set_cons_succ]
      clear hHeld hS0 HBQ
      generalize wq.drew = w2 at *
      have HC1 := Lib.hid (rput_any D m d E me ce k v hmd hm hme hm2 l x w2 (HX.out.on hbd) ((HK.out.below hbd (Nat.le_refl _)).more hbd.size) ((HV.out.below hbd (Nat.le_refl _)).more hbd.size) (by omega))
      rw [ptr_some] at HC1
      refine wpAnyH_ready (rs := [6]) (by kernel_rfl) (by simp) ?_
      refine AllReadyH.cons rfl (fun K hK => ?_) AllReadyH.nil
      go_simp
      refine HC1.out.mono ?_
      rintro e w3 ⟨c1, rfl, hN1, hb3⟩
      rw [ptr_some]
      replace hb3 := hbd.trans (hb3.mono hbd.size)
      refine hK.out _ _ (HSD.out w3 hb3) (fun _ => ?_)
      clear hK K HC1 hbd
      have HC2 := Lib.hid (rbal_any (l.put k v) r c1 y w3 hN1 (HY.out.on hb3) (by have := put_n k v l; omega))
      rw [ptr_some, ptr_some] at HC2
      clear hN1
      refine wpAnyH_ready (rs := [11]) (by kernel_rfl) (by simp) ?_
      refine AllReadyH.cons rfl (fun K hK => ?_) AllReadyH.nil
      go_simp
      refine HC2.out.mono ?_
      rintro e w4 ⟨c2, rfl, hN2, hb4⟩
      rw [ptr_some]
      replace hb4 := hb3.trans (hb4.mono hb3.size)
      have hHeld := HSD.out w4 hb4
      refine hK.out _ _ hHeld (fun _ => ?_)
      clear hK K HC2 hb3
      have HN2 := Lib.hid hN2
      have HB4 := Lib.hid hb4
      clear hN2 hb4
      refine wpAnyH_take (i := 12) (oi := { dst := some 6, op := Op.assign (Operand.tmp 62), type := 26, pos := "ref.go:97", after := #[{ on := 11, ground := Ground.data }, { on := 11, ground := Ground.chain }, { on := 0, ground := Ground.phase }, { on := 1, ground := Ground.phase }, { on := 2, ground := Ground.phase }, { on := 3, ground := Ground.phase }, { on := 4, ground := Ground.phase }, { on := 5, ground := Ground.phase }, { on := 6, ground := Ground.phase }, { on := 7, ground := Ground.phase }, { on := 8, ground := Ground.phase }, { on := 9, ground := Ground.phase }, { on := 10, ground := Ground.phase }, { on := 11, ground := Ground.phase }], guard := none }) (v := ?_) rfl (by kernel_rfl) (by kernel_rfl) (by kernel_rfl) (fun _ _ _ h => h) (Or.inl ⟨by rfl, ?_⟩) (by assumption) ?_
      rotate_left
      · first | (intro w hSw; (try dsimp only at hSw); go_simp; done) | (intro w hSw; (try dsimp only at hSw); go_simp; with_reducible rfl)
      simp only [Act.put, List.setIfInBounds_toArray, List.set_cons_zero, List.set_cons_succ]
      refine wpAnyH_done (by kernel_rfl) ?_ _
      clear hHeld
      go_wp2_with fail
      go_ret
      exact ⟨c2, rfl, HN2.out, HB4.out⟩
    · have hq : Go.Op.bytesLess k r.least = false := (Bool.not_eq_true _).mp hlt
      rw [HU.out, if_neg hlt]
      clear HU
      go_enter Tryd.func16, Tryd.ntmps16
      go_upto_region 2 with (fail)
      clear hz62
      generalize w.alloc (.cells #[.slice D m d, .slice E me ce, .int .i64 0, .int .u64 1, .pointer none, .pointer none] 62) = w1 at *
      go_wp2_with fail
      go_quiet (fail)
      rename Nat => nq
      have HBQ := Lib.hid (below_drewN HB.out nq)
      clear s1 s2 c0 c2
      generalize w1.drewN nq = wq at *
      go_upto_region 12 with (fail)
      have hbd : Below w.heap.size w wq.drew := HBQ.out.drew
      have hS0 := HSD.out wq.drew hbd
      refine wp_region_held_drew (S := fun u => u.cell? ⟨b, 4, none⟩ = some (.pointer (some ⟨x, 0, none⟩)) ∧ u.cell? ⟨b, 5, none⟩ = some (.pointer (some ⟨y, 0, none⟩))) (by kernel_rfl) hS0 (fun hHeld => ?_)
      refine wpAnyH_take (i := 0) (oi := { dst := some 63, op := Op.move (Operand.tmp 0), type := 26, pos := "ref.go:99", after := #[], guard := none }) (v := ?_) rfl (by kernel_rfl) (by kernel_rfl) (by kernel_rfl) (fun _ _ _ h => h) (Or.inl ⟨by rfl, ?_⟩) (by assumption) ?_
      rotate_left
      · first | (intro w hSw; (try dsimp only at hSw); go_simp; done) | (intro w hSw; (try dsimp only at hSw); go_simp; with_reducible rfl)
      simp only [Act.put, List.setIfInBounds_toArray, List.set_cons_zero, List.set_cons_succ]
      refine wpAnyH_take (i := 1) (oi := { dst := some 64, op := Op.nilCheck (Operand.tmp 63), type := 0, pos := "ref.go:99", after := #[{ on := 0, ground := Ground.data }], guard := none }) (v := ?_) rfl (by kernel_rfl) (by kernel_rfl) (by kernel_rfl) (fun _ _ _ h => h) (Or.inl ⟨by rfl, ?_⟩) (by assumption) ?_
      rotate_left
      · first | (intro w hSw; (try dsimp only at hSw); go_simp; done) | (intro w hSw; (try dsimp only at hSw); go_simp; with_reducible rfl)
      simp only [Act.put, List.setIfInBounds_toArray, List.set_cons_zero, List.set_cons_succ]
      refine wpAnyH_take (i := 2) (oi := { dst := some 65, op := Op.fieldAddr 62 (Operand.tmp 64) 4, type := 0, pos := "ref.go:99", after := #[{ on := 1, ground := Ground.data }], guard := none }) (v := ?_) rfl (by kernel_rfl) (by kernel_rfl) (by kernel_rfl) (fun _ _ _ h => h) (Or.inl ⟨by rfl, ?_⟩) (by assumption) ?_
      rotate_left
      · first | (intro w hSw; (try dsimp only at hSw); go_simp; done) | (intro w hSw; (try dsimp only at hSw); go_simp; with_reducible rfl)
      simp only [Act.put, List.setIfInBounds_toArray, List.set_cons_zero, List.set_cons_succ]
      refine wpAnyH_take (i := 3) (oi := { dst := some 66, op := Op.load 26 (Operand.tmp 65), type := 26, pos := "ref.go:99", after := #[{ on := 2, ground := Ground.data }], guard := none }) (v := ?_) rfl (by kernel_rfl) (by kernel_rfl) (by kernel_rfl) (fun _ _ _ h => h) (Or.inl ⟨by rfl, ?_⟩) (by assumption) ?_
      rotate_left
      · first | (intro w hSw; (try dsimp only at hSw); go_simp; done) | (intro w hSw; (try dsimp only at hSw); go_simp; with_reducible rfl)
      simp only [Act.put, List.setIfInBounds_toArray, List.set_cons_zero, List.set_cons_succ]
      refine wpAnyH_take (i := 4) (oi := { dst := some 67, op := Op.move (Operand.tmp 0), type := 26, pos := "ref.go:99", after := #[], guard := none }) (v := ?_) rfl (by kernel_rfl) (by kernel_rfl) (by kernel_rfl) (fun _ _ _ h => h) (Or.inl ⟨by rfl, ?_⟩) (by assumption) ?_
      rotate_left
      · first | (intro w hSw; (try dsimp only at hSw); go_simp; done) | (intro w hSw; (try dsimp only at hSw); go_simp; with_reducible rfl)
      simp only [Act.put, List.setIfInBounds_toArray, List.set_cons_zero, List.set_cons_succ]
      refine wpAnyH_take (i := 5) (oi := { dst := some 68, op := Op.nilCheck (Operand.tmp 67), type := 0, pos := "ref.go:99", after := #[{ on := 4, ground := Ground.data }], guard := none }) (v := ?_) rfl (by kernel_rfl) (by kernel_rfl) (by kernel_rfl) (fun _ _ _ h => h) (Or.inl ⟨by rfl, ?_⟩) (by assumption) ?_
      rotate_left
      · first | (intro w hSw; (try dsimp only at hSw); go_simp; done) | (intro w hSw; (try dsimp only at hSw); go_simp; with_reducible rfl)
      simp only [Act.put, List.setIfInBounds_toArray, List.set_cons_zero, List.set_cons_succ]
      refine wpAnyH_take (i := 6) (oi := { dst := some 69, op := Op.fieldAddr 62 (Operand.tmp 68) 5, type := 0, pos := "ref.go:99", after := #[{ on := 5, ground := Ground.data }], guard := none }) (v := ?_) rfl (by kernel_rfl) (by kernel_rfl) (by kernel_rfl) (fun _ _ _ h => h) (Or.inl ⟨by rfl, ?_⟩) (by assumption) ?_
      rotate_left
      · first | (intro w hSw; (try dsimp only at hSw); go_simp; done) | (intro w hSw; (try dsimp only at hSw); go_simp; with_reducible rfl)
      simp only [Act.put, List.setIfInBounds_toArray, List.set_cons_zero, List.set_cons_succ]
      refine wpAnyH_take (i := 7) (oi := { dst := some 70, op := Op.load 26 (Operand.tmp 69), type := 26, pos := "ref.go:99", after := #[{ on := 6, ground := Ground.data }], guard := none }) (v := ?_) rfl (by kernel_rfl) (by kernel_rfl) (by kernel_rfl) (fun _ _ _ h => h) (Or.inl ⟨by rfl, ?_⟩) (by assumption) ?_
      rotate_left
      · first | (intro w hSw; (try dsimp only at hSw); go_simp; done) | (intro w hSw; (try dsimp only at hSw); go_simp; with_reducible rfl)
      simp only [Act.put, List.setIfInBounds_toArray, List.set_cons_zero, List.set_cons_succ]
      refine wpAnyH_take (i := 8) (oi := { dst := some 71, op := Op.move (Operand.tmp 1), type := 27, pos := "ref.go:99", after := #[], guard := none }) (v := ?_) rfl (by kernel_rfl) (by kernel_rfl) (by kernel_rfl) (fun _ _ _ h => h) (Or.inl ⟨by rfl, ?_⟩) (by assumption) ?_
      rotate_left
      · first | (intro w hSw; (try dsimp only at hSw); go_simp; done) | (intro w hSw; (try dsimp only at hSw); go_simp; with_reducible rfl)
      simp only [Act.put, List.setIfInBounds_toArray, List.set_cons_zero, List.set_cons_succ]
      refine wpAnyH_take (i := 9) (oi := { dst := some 72, op := Op.move (Operand.tmp 2), type := 27, pos := "ref.go:99", after := #[], guard := none }) (v := ?_) rfl (by kernel_rfl) (by kernel_rfl) (by kernel_rfl) (fun _ _ _ h => h) (Or.inl ⟨by rfl, ?_⟩) (by assumption) ?_
      rotate_left
      · first | (intro w hSw; (try dsimp only at hSw); go_simp; done) | (intro w hSw; (try dsimp only at hSw); go_simp; with_reducible rfl)
      simp only [Act.put, List.setIfInBounds_toArray, List.set_cons_zero, List.set_cons_succ]
      clear hHeld hS0 HBQ
      generalize wq.drew = w2 at *
      have HC1 := Lib.hid (rput_any D m d E me ce k v hmd hm hme hm2 r y w2 (HY.out.on hbd) ((HK.out.below hbd (Nat.le_refl _)).more hbd.size) ((HV.out.below hbd (Nat.le_refl _)).more hbd.size) (by omega))
      rw [ptr_some] at HC1
      refine wpAnyH_ready (rs := [10]) (by kernel_rfl) (by simp) ?_
      refine AllReadyH.cons rfl (fun K hK => ?_) AllReadyH.nil
      go_simp
      refine HC1.out.mono ?_
      rintro e w3 ⟨c1, rfl, hN1, hb3⟩
      rw [ptr_some]
      replace hb3 := hbd.trans (hb3.mono hbd.size)
      refine hK.out _ _ (HSD.out w3 hb3) (fun _ => ?_)
      clear hK K HC1 hbd
      have HC2 := Lib.hid (rbal_any l (r.put k v) x c1 w3 (HX.out.on hb3) hN1 (by have := put_n k v r; omega))
      rw [ptr_some, ptr_some] at HC2
      clear hN1
      refine wpAnyH_ready (rs := [11]) (by kernel_rfl) (by simp) ?_
      refine AllReadyH.cons rfl (fun K hK => ?_) AllReadyH.nil
      go_simp
      refine HC2.out.mono ?_
      rintro e w4 ⟨c2, rfl, hN2, hb4⟩
      rw [ptr_some]
      replace hb4 := hb3.trans (hb4.mono hb3.size)
      have hHeld := HSD.out w4 hb4
      refine hK.out _ _ hHeld (fun _ => ?_)
      clear hK K HC2 hb3
      have HN2 := Lib.hid hN2
      have HB4 := Lib.hid hb4
      clear hN2 hb4
      refine wpAnyH_take (i := 12) (oi := { dst := some 6, op := Op.assign (Operand.tmp 74), type := 26, pos := "ref.go:99", after := #[{ on := 11, ground := Ground.data }, { on := 11, ground := Ground.chain }, { on := 0, ground := Ground.phase }, { on := 1, ground := Ground.phase }, { on := 2, ground := Ground.phase }, { on := 3, ground := Ground.phase }, { on := 4, ground := Ground.phase }, { on := 5, ground := Ground.phase }, { on := 6, ground := Ground.phase }, { on := 7, ground := Ground.phase }, { on := 8, ground := Ground.phase }, { on := 9, ground := Ground.phase }, { on := 10, ground := Ground.phase }, { on := 11, ground := Ground.phase }], guard := none }) (v := ?_) rfl (by kernel_rfl) (by kernel_rfl) (by kernel_rfl) (fun _ _ _ h => h) (Or.inl ⟨by rfl, ?_⟩) (by assumption) ?_
      rotate_left
      · first | (intro w hSw; (try dsimp only at hSw); go_simp; done) | (intro w hSw; (try dsimp only at hSw); go_simp; with_reducible rfl)
      simp only [Act.put, List.setIfInBounds_toArray, List.set_cons_zero, List.set_cons_succ]
      refine wpAnyH_done (by kernel_rfl) ?_ _
      clear hHeld
      go_wp2_with fail
      go_ret
      exact ⟨c2, rfl, HN2.out, HB4.out⟩

def RWoPost (o : Option T) (w : World) (e : Ending) (w' : World) : Prop := ∃ p, e = .returned (ptr p) ∧ RPIn w' w'.heap.size o p ∧ Below w.heap.size w w'

set_option maxRecDepth 100000 in
set_option maxHeartbeats 2000000 in
theorem rcut_any (D : Option Addr) (m d : Nat) (k : List UInt8) : ∀ (t : T) (b : Nat) (w : World) (_ : RIn w w.heap.size t b) (_ : Rd w w.heap.size D m k) (_ : t.n ≤ 4294967296),
    Calls Tryd.prog 18 #[ptr (some b), .slice D m d] w (RWoPost (t.cut k) w)
  | .leaf k' v', b, w, hl, _, _ => by
    obtain ⟨A, n, c, A', n', c', hh⟩ := hl
    have c2 : w.cell? ⟨b, 2, none⟩ = some (.int .i64 0) := hh.cells.2.2.1
    clear hh
    rw [ptr_some]
    go_enter Tryd.func18, Tryd.ntmps18
    go_wp2_with fail
    go_ret
    exact ⟨none, rfl, rfl, Below.refl _ _⟩
  | .node l r, b, w, hl, hk, hn => by
    obtain ⟨A, n, c, A', n', c', x, y, hh, hx, hy⟩ := hl
    have c0 := hh.cells.1
    have c2 := hh.cells.2.2.1
    have hne := h_ne l r
    have hz : (((T.node l r).h : Int) == 0) = false := by rw [beq_eq_false_iff_ne]; omega
    have s1 := fun j => run_string (w.drewN j) _ D m d k (hk.drewN j)
    have s2 := fun j => run_string (w.drewN j) _ A n c r.least (hh.key.drewN j)
    have HU : Hid ((T.node l r).cut k = if lt k r.least = true then (match l.cut k with | none => some r | some l' => some (bal l' r)) else (match r.cut k with | none => some l | some r' => some (bal l r'))) := Lib.hid rfl
    have HSD : Hid (∀ u, Below w.heap.size w u → u.cell? ⟨b, 4, none⟩ = some (.pointer (some ⟨x, 0, none⟩)) ∧ u.cell? ⟨b, 5, none⟩ = some (.pointer (some ⟨y, 0, none⟩))) := Lib.hid (fun u hu => hh.sides hu)
    have HX := Lib.hid hx
    have HY := Lib.hid hy
    have HK := Lib.hid hk
    have p1 := T.n_pos l
    have p2 := T.n_pos r
    change l.n + r.n ≤ _ at hn
    clear hk hh hx hy hne
    rw [ptr_some]
    generalize (T.node l r).h = H at *
    by_cases hlt : lt k r.least = true
    · have hq : Go.Op.bytesLess k r.least = true := hlt
      rw [HU.out, if_pos hlt]
      clear HU
      cases hc : l.cut k with
      | none =>
        have HCC := Lib.hid hc
        clear hc
        go_enter Tryd.func18, Tryd.ntmps18
        go_wp2_with fail
        go_quiet (fail)
        rename Nat => nq
        have hbq : Below w.heap.size w (w.drewN nq) := below_drewN (Below.refl _ _) nq
        clear s1 s2 c0 c2
        generalize w.drewN nq = w1 at *
        obtain ⟨c4, c5⟩ := HSD.out w1 hbq
        have HC1 := Lib.hid (rcut_any D m d k l x w1 (HX.out.on hbq) ((HK.out.below hbq (Nat.le_refl _)).more hbq.size) (by omega))
        rw [ptr_some] at HC1
        have HBQ := Lib.hid hbq
        clear hbq
        go_wp2_with fail
        refine HC1.out.mono ?_
        rintro e w2 ⟨p, rfl, hP, hb2⟩
        replace hb2 := HBQ.out.trans (hb2.mono HBQ.out.size)
        clear c4 c5 HC1
        obtain ⟨c4, c5⟩ := HSD.out w2 hb2
        rw [HCC.out] at hP
        obtain rfl := hP
        rw [ptr_none]
        have HB2 := Lib.hid hb2
        clear hb2
        go_wp2_with fail
        go_ret
        exact ⟨some y, rfl, ⟨y, rfl, HY.out.on HB2.out⟩, HB2.out⟩
      | some l' =>
        have hln := cut_n k l l' hc
        have HCC := Lib.hid hc
        clear hc
        go_enter Tryd.func18, Tryd.ntmps18
        go_wp2_with fail
        go_quiet (fail)
        rename Nat => nq
        have hbq : Below w.heap.size w (w.drewN nq) := below_drewN (Below.refl _ _) nq
        clear s1 s2 c0 c2
        generalize w.drewN nq = w1 at *
        obtain ⟨c4, c5⟩ := HSD.out w1 hbq
        have HC1 := Lib.hid (rcut_any D m d k l x w1 (HX.out.on hbq) ((HK.out.below hbq (Nat.le_refl _)).more hbq.size) (by omega))
        rw [ptr_some] at HC1
        have HBQ := Lib.hid hbq
        clear hbq
        go_wp2_with fail
        refine HC1.out.mono ?_
        rintro e w2 ⟨p, rfl, hP, hb2⟩
        replace hb2 := HBQ.out.trans (hb2.mono HBQ.out.size)
        clear c4 c5 HC1
        obtain ⟨c4, c5⟩ := HSD.out w2 hb2
        rw [HCC.out] at hP
        obtain ⟨b1, rfl, hN1⟩ := hP
        rw [ptr_some]
        have HC2 := Lib.hid (rbal_any l' r b1 y w2 hN1 (HY.out.on hb2) (by omega))
        rw [ptr_some, ptr_some] at HC2
        have HB2 := Lib.hid hb2
        clear hb2 hN1
        go_wp2_with fail
        refine HC2.out.mono ?_
        rintro e w3 ⟨b2, rfl, hN2, hb3⟩
        have HN2 := Lib.hid hN2
        have HB3 := Lib.hid (HB2.out.trans (hb3.mono HB2.out.size))
        clear hN2 hb3 c4 c5 HC2
        rw [ptr_some]
        go_wp2_with fail
        go_ret
        exact ⟨some b2, rfl, ⟨b2, rfl, HN2.out⟩, HB3.out⟩
    · have hq : Go.Op.bytesLess k r.least = false := (Bool.not_eq_true _).mp hlt
      rw [HU.out, if_neg hlt]
      clear HU
      cases hc : r.cut k with
      | none =>
        have HCC := Lib.hid hc
        clear hc
        go_enter Tryd.func18, Tryd.ntmps18
        go_wp2_with fail
        go_quiet (fail)
        rename Nat => nq
        have hbq : Below w.heap.size w (w.drewN nq) := below_drewN (Below.refl _ _) nq
        clear s1 s2 c0 c2
        generalize w.drewN nq = w1 at *
        obtain ⟨c4, c5⟩ := HSD.out w1 hbq
        have HC1 := Lib.hid (rcut_any D m d k r y w1 (HY.out.on hbq) ((HK.out.below hbq (Nat.le_refl _)).more hbq.size) (by omega))
        rw [ptr_some] at HC1
        have HBQ := Lib.hid hbq
        clear hbq
        go_wp2_with fail
        refine HC1.out.mono ?_
        rintro e w2 ⟨p, rfl, hP, hb2⟩
        replace hb2 := HBQ.out.trans (hb2.mono HBQ.out.size)
        clear c4 c5 HC1
        obtain ⟨c4, c5⟩ := HSD.out w2 hb2
        rw [HCC.out] at hP
        obtain rfl := hP
        rw [ptr_none]
        have HB2 := Lib.hid hb2
        clear hb2
        go_wp2_with fail
        go_ret
        exact ⟨some x, rfl, ⟨x, rfl, HX.out.on HB2.out⟩, HB2.out⟩
      | some r' =>
        have hln := cut_n k r r' hc
        have HCC := Lib.hid hc
        clear hc
        go_enter Tryd.func18, Tryd.ntmps18
        go_wp2_with fail
        go_quiet (fail)
        rename Nat => nq
        have hbq : Below w.heap.size w (w.drewN nq) := below_drewN (Below.refl _ _) nq
        clear s1 s2 c0 c2
        generalize w.drewN nq = w1 at *
        obtain ⟨c4, c5⟩ := HSD.out w1 hbq
        have HC1 := Lib.hid (rcut_any D m d k r y w1 (HY.out.on hbq) ((HK.out.below hbq (Nat.le_refl _)).more hbq.size) (by omega))
        rw [ptr_some] at HC1
        have HBQ := Lib.hid hbq
        clear hbq
        go_wp2_with fail
        refine HC1.out.mono ?_
        rintro e w2 ⟨p, rfl, hP, hb2⟩
        replace hb2 := HBQ.out.trans (hb2.mono HBQ.out.size)
        clear c4 c5 HC1
        obtain ⟨c4, c5⟩ := HSD.out w2 hb2
        rw [HCC.out] at hP
        obtain ⟨b1, rfl, hN1⟩ := hP
        rw [ptr_some]
        have HC2 := Lib.hid (rbal_any l r' x b1 w2 (HX.out.on hb2) hN1 (by omega))
        rw [ptr_some, ptr_some] at HC2
        have HB2 := Lib.hid hb2
        clear hb2 hN1
        go_wp2_with fail
        refine HC2.out.mono ?_
        rintro e w3 ⟨b2, rfl, hN2, hb3⟩
        have HN2 := Lib.hid hN2
        have HB3 := Lib.hid (HB2.out.trans (hb3.mono HB2.out.size))
        clear hN2 hb3 c4 c5 HC2
        rw [ptr_some]
        go_wp2_with fail
        go_ret
        exact ⟨some b2, rfl, ⟨b2, rfl, HN2.out⟩, HB3.out⟩
end Go.Proofs.YtbhmldoehgkhfaaDoor
