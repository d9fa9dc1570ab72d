/-
  What save of a base does, of a tree's nodes and of a tree that has none; conditions as ahead.
-/
import Derived.Test.YtolkpjbbfopmnaaDoorBSave
namespace Go.Proofs.YtolkpjbbfopmnaaDoor
open Go.RowKit Go.Shelf
open Tr

theorem save_any (pb M base g0t : Nat) (t : T) (hpbb : pb < base) (hMb : M < base) (htn : t.n ≤ 1000) (s : T) : SaveAt pb M base g0t t s := by
  induction s with
  | leaf k v => exact save_core pb M base g0t t hpbb hMb htn _ (fun l r h => by cases h)
  | node l r ihl ihr => exact save_core pb M base g0t t hpbb hMb htn _ (fun l' r' h => by injection h with h1 h2; subst h1 h2; exact ⟨ihl, ihr⟩)

set_option maxRecDepth 100000 in
set_option maxHeartbeats 600000 in
theorem save_none (pb M g0t : Nat) (h : List UInt8) (hl : h.length = 32) (ms : List (List UInt8 × Value)) (w : World) (hB : BAt w pb M ms) (hV : NVals ms) (hT : TIn (fun b => b ≠ M) w w.heap.size none g0t) :
    Calls Tryd.prog 48 #[ptr (some pb), .agg (Sh.bcells h), ptr (some g0t), .slice none 0 0] w fun e w' => e = .returned undef ∧ Below w.heap.size w w' := by
  obtain ⟨X, is, hX, hone, hrun, -, -⟩ := look_case (M := M) hV h hl
  have hb := (Below.refl w.heap.size w).alloc (Nat.le_refl _) (.cells (Sh.bcells h) 29)
  have hw := Whole.made w 29 (Sh.bcells h)
  have cb : (w.alloc (.cells (Sh.bcells h) 29)).cell? ⟨pb, 0, none⟩ = some (.map (some M)) := (hb.cell (p := ⟨pb, 0, none⟩) hB.1.lt).trans (hB.1.at_ (i := 0) rfl)
  have hpb : pb < (w.alloc (.cells (Sh.bcells h) 29)).heap.size := Nat.lt_of_lt_of_le hB.1.lt hb.size
  have hg0 : w.heap.size < (w.alloc (.cells (Sh.bcells h) 29)).heap.size := by simp
  have HRG : Hid ((w.alloc (.cells (Sh.bcells h) 29)).rangeAt w.heap.size 0 (h.map V8)) := Lib.hid hw.range
  have HRUN := Lib.hid (fun (u : World) (hbu : Below (w.alloc (.cells (Sh.bcells h) 29)).heap.size (w.alloc (.cells (Sh.bcells h) 29)) u) => hrun u ((hB.below hb).below hbu).2.1)
  have HI : Hid ((Tryd.prog.info? 29).map (·.size) = some (h.map V8).length) := Lib.hid (by rw [List.length_map, hl]; exact info49)
  have HB := Lib.hid hb
  have HT := Lib.hid hT
  clear hb hw hrun hB hV hT hl
  change Hid (∀ (u : World), Below (w.alloc (.cells (Sh.bcells h) 29)).heap.size (w.alloc (.cells (Sh.bcells h) 29)) u → (Instr.lookup 94 (.map (some M)) (.agg (h.map V8).toArray) true).run Tryd.prog u = .ok (.tuple #[.agg X, .bool is]) u) at HRUN
  obtain ⟨g0, hgg⟩ : ∃ g, w.heap.size = g := ⟨_, rfl⟩
  rw [hgg] at HRG hg0 HB
  have HG := Lib.hid hgg
  rw [ptr_some, ptr_some]
  go_enter Tryd.func48, Tryd.ntmps48
  go_upto_region 1 with (fail)
  generalize w.alloc (.cells (Sh.bcells h) 29) = w1 at *
  clear hgg
  have hS0 : w1.drew.cell? ⟨pb, 0, none⟩ = some (.map (some M)) ∧ w1.drew.rangeAt g0 0 (h.map V8) ∧ (Instr.lookup 94 (.map (some M)) (.agg (h.map V8).toArray) true).run Tryd.prog w1.drew = .ok (.tuple #[.agg X, .bool is]) w1.drew := ⟨cb, HRG.out, HRUN.out w1.drew (Below.refl _ _).drew⟩
  refine wp_region_held_drew (S := fun u => u.cell? ⟨pb, 0, none⟩ = some (.map (some M)) ∧ u.rangeAt g0 0 (h.map V8) ∧ (Instr.lookup 94 (.map (some M)) (.agg (h.map V8).toArray) true).run Tryd.prog u = .ok (.tuple #[.agg X, .bool is]) u) (by kernel_rfl) hS0 (fun hHeld => ?_)
  refine wpAnyH_take (i := 0) (oi := { dst := some 13, op := Op.move (Operand.tmp 0), type := 50, pos := "nodes.go:30", after := #[], guard := none }) (v := ?_) rfl (by kernel_rfl) (by kernel_rfl) (by kernel_rfl) (fun _ _ _ h => h) (Or.inl ⟨by rfl, ?_⟩) (by assumption) ?_
  rotate_left
  · first | (intro w hSw; (try dsimp only at hSw); go_simp; done) | (intro w hSw; (try dsimp only at hSw); go_simp; with_reducible rfl)
  simp only [Act.put, List.setIfInBounds_toArray, List.set_cons_zero, List.set_cons_succ]
  refine wpAnyH_take (i := 1) (oi := { dst := some 14, op := Op.nilCheck (Operand.tmp 13), type := 0, pos := "nodes.go:30", after := #[{ on := 0, ground := Ground.data }], guard := none }) (v := ?_) rfl (by kernel_rfl) (by kernel_rfl) (by kernel_rfl) (fun _ _ _ h => h) (Or.inl ⟨by rfl, ?_⟩) (by assumption) ?_
  rotate_left
  · first | (intro w hSw; (try dsimp only at hSw); go_simp; done) | (intro w hSw; (try dsimp only at hSw); go_simp; with_reducible rfl)
  simp only [Act.put, List.setIfInBounds_toArray, List.set_cons_zero, List.set_cons_succ]
  refine wpAnyH_take (i := 2) (oi := { dst := some 15, op := Op.fieldAddr 96 (Operand.tmp 14) 0, type := 0, pos := "nodes.go:30", after := #[{ on := 1, ground := Ground.data }], guard := none }) (v := ?_) rfl (by kernel_rfl) (by kernel_rfl) (by kernel_rfl) (fun _ _ _ h => h) (Or.inl ⟨by rfl, ?_⟩) (by assumption) ?_
  rotate_left
  · first | (intro w hSw; (try dsimp only at hSw); go_simp; done) | (intro w hSw; (try dsimp only at hSw); go_simp; with_reducible rfl)
  simp only [Act.put, List.setIfInBounds_toArray, List.set_cons_zero, List.set_cons_succ]
  refine wpAnyH_take (i := 3) (oi := { dst := some 16, op := Op.load 94 (Operand.tmp 15), type := 94, pos := "nodes.go:30", after := #[{ on := 2, ground := Ground.data }], guard := none }) (v := ?_) rfl (by kernel_rfl) (by kernel_rfl) (by kernel_rfl) (fun _ _ _ h => h) (Or.inl ⟨by rfl, ?_⟩) (by assumption) ?_
  rotate_left
  · first | (intro w hSw; (try dsimp only at hSw); go_simp; done) | (intro w hSw; (try dsimp only at hSw); go_simp; with_reducible rfl)
  simp only [Act.put, List.setIfInBounds_toArray, List.set_cons_zero, List.set_cons_succ]
  refine wpAnyH_take (i := 4) (oi := { dst := some 17, op := Op.load 29 (Operand.tmp 5), type := 29, pos := "nodes.go:30", after := #[], guard := none }) (v := .agg (h.map V8).toArray) rfl (by kernel_rfl) (by kernel_rfl) (by kernel_rfl) (fun _ _ _ h => h) (yieldsIf_load_mid (by rfl) 29 (.tmp 5) rfl g0 0 rfl (h.map V8) _ (fun _ h => h.2.1) Tryd.underlying29 rfl HI.out) (by assumption) ?_
  simp only [Act.put, List.setIfInBounds_toArray, List.set_cons_zero, List.set_cons_succ]
  refine wpAnyH_take (i := 5) (oi := { dst := some 18, op := Op.lookup 94 (Operand.tmp 16) (Operand.tmp 17) true, type := 74, pos := "nodes.go:30", after := #[{ on := 3, ground := Ground.data }, { on := 4, ground := Ground.data }], guard := none }) (v := ?_) rfl (by kernel_rfl) (by kernel_rfl) (by kernel_rfl) (fun _ _ _ h => h) (Or.inl ⟨by rfl, ?_⟩) (by assumption) ?_
  rotate_left
  · first | (intro w hSw; (try dsimp only at hSw); go_simp; done) | (intro w hSw; (try dsimp only at hSw); go_simp; with_reducible rfl)
  simp only [Act.put, List.setIfInBounds_toArray, List.set_cons_zero, List.set_cons_succ]
  refine wpAnyH_take (i := 6) (oi := { dst := some 12, op := Op.move (Operand.tmp 18), type := 74, pos := "nodes.go:30", after := #[{ on := 5, ground := Ground.data }], guard := none }) (v := ?_) rfl (by kernel_rfl) (by kernel_rfl) (by kernel_rfl) (fun _ _ _ h => h) (Or.inl ⟨by rfl, ?_⟩) (by assumption) ?_
  rotate_left
  · first | (intro w hSw; (try dsimp only at hSw); go_simp; done) | (intro w hSw; (try dsimp only at hSw); go_simp; with_reducible rfl)
  simp only [Act.put, List.setIfInBounds_toArray, List.set_cons_zero, List.set_cons_succ]
  refine wpAnyH_take (i := 7) (oi := { dst := some 19, op := Op.extract (Operand.tmp 12) 0, type := 47, pos := "nodes.go:30", after := #[{ on := 6, ground := Ground.data }], guard := none }) (v := ?_) rfl (by kernel_rfl) (by kernel_rfl) (by kernel_rfl) (fun _ _ _ h => h) (Or.inl ⟨by rfl, ?_⟩) (by assumption) ?_
  rotate_left
  · first | (intro w hSw; (try dsimp only at hSw); go_simp; done) | (intro w hSw; (try dsimp only at hSw); go_simp; with_reducible rfl)
  simp only [Act.put, List.setIfInBounds_toArray, List.set_cons_zero, List.set_cons_succ]
  refine wpAnyH_take (i := 8) (oi := { dst := some 20, op := Op.extract (Operand.tmp 12) 1, type := 4, pos := "nodes.go:30", after := #[{ on := 6, ground := Ground.data }, { on := 10, ground := Ground.gcOnly Departure.lateStores }], guard := none }) (v := ?_) rfl (by kernel_rfl) (by kernel_rfl) (by kernel_rfl) (fun _ _ _ h => h) (Or.inl ⟨by rfl, ?_⟩) (by assumption) ?_
  rotate_left
  · first | (intro w hSw; (try dsimp only at hSw); go_simp; done) | (intro w hSw; (try dsimp only at hSw); go_simp; with_reducible rfl)
  simp only [Act.put, List.setIfInBounds_toArray, List.set_cons_zero, List.set_cons_succ]
  have hz64 := zero64
  refine wpAnyH_ready (rs := [9]) (by kernel_rfl) (by simp) ?_
  refine AllReadyH.cons (o := { dst := some 8, op := Op.alloc 47, type := 0, pos := "nodes.go:30", after := #[], guard := none }) rfl (fun K hK => ?_) AllReadyH.nil
  go_simp
  have hb2 : Below w1.heap.size w1 (w1.alloc (.cells z64 47)).drew := ((Below.refl _ _).alloc (Nat.le_refl _) _).drew
  have hw2 : Whole (w1.alloc (.cells z64 47)).drew w1.heap.size 47 z64 := Whole.made w1 47 z64
  refine hK.out _ _ ⟨(hb2.cell (p := ⟨pb, 0, none⟩) hpb).trans cb, range_keep HRG.out hb2 hg0, HRUN.out _ hb2⟩ (fun _ => ?_)
  clear hK K hHeld hS0 hz64
  refine wpAnyH_ready (rs := [10]) (by kernel_rfl) (by simp) ?_
  refine AllReadyH.cons (o := { dst := none, op := Op.store 47 (Operand.tmp 8) (Operand.tmp 19), type := 0, pos := "nodes.go:30", after := #[{ on := 9, ground := Ground.data }, { on := 7, ground := Ground.data }, { on := 0, ground := Ground.phase }, { on := 1, ground := Ground.phase }, { on := 2, ground := Ground.phase }, { on := 3, ground := Ground.phase }, { on := 4, ground := Ground.phase }, { on := 5, ground := Ground.phase }, { on := 6, ground := Ground.phase }, { on := 7, ground := Ground.phase }, { on := 8, ground := Ground.textOnly Departure.lateStores }, { on := 9, ground := Ground.phase }], guard := none }) rfl (fun K hK => ?_) AllReadyH.nil
  refine Eq.mpr (if_pos (by rfl)) ?_
  refine wp_store_mid 47 (.tmp 8) (.tmp 19) rfl w1.heap.size 0 X rfl rfl ?_ ?_ hone ?_
  · rw [hX]; exact hw2.there_
  · rw [hX]; exact info64
  have hw3 := hw2.setAll (vs := X) (by rw [hX]; rfl)
  have hb3 : Below w1.heap.size w1 ((w1.alloc (.cells z64 47)).drew.setCells w1.heap.size 0 X.toList) := below_setCells w1 w1.heap.size _ 0 hb2 (Nat.le_refl _)
  refine hK.out _ _ ⟨(hb3.cell (p := ⟨pb, 0, none⟩) hpb).trans cb, range_keep HRG.out hb3 hg0, HRUN.out _ hb3⟩ (fun _ => ?_)
  clear hK K hb2 hw2
  have HW3 : Hid (Whole ((w1.alloc (.cells z64 47)).drew.setCells w1.heap.size 0 X.toList) w1.heap.size 47 X) := Lib.hid hw3
  have HB3 := Lib.hid hb3
  clear hw3 hb3
  generalize (w1.alloc (.cells z64 47)).drew.setCells w1.heap.size 0 X.toList = w3 at *
  refine wpAnyH_take (i := 11) (oi := { dst := some 9, op := Op.assign (Operand.tmp 20), type := 4, pos := "nodes.go:30", after := #[{ on := 8, ground := Ground.data }, { on := 10, ground := Ground.chain }, { on := 0, ground := Ground.phase }, { on := 1, ground := Ground.phase }, { on := 2, ground := Ground.phase }, { on := 3, ground := Ground.phase }, { on := 4, ground := Ground.phase }, { on := 5, ground := Ground.phase }, { on := 6, ground := Ground.phase }, { on := 7, ground := Ground.phase }, { on := 8, ground := Ground.phase }, { on := 9, ground := Ground.phase }, { on := 10, ground := Ground.phase }], guard := none }) (v := ?_) rfl (by kernel_rfl) (by kernel_rfl) (by kernel_rfl) (fun _ _ _ h => h) (Or.inl ⟨by rfl, ?_⟩) (by assumption) ?_
  rotate_left
  · first | (intro w hSw; (try dsimp only at hSw); go_simp; done) | (intro w hSw; (try dsimp only at hSw); go_simp; with_reducible rfl)
  simp only [Act.put, List.setIfInBounds_toArray, List.set_cons_zero, List.set_cons_succ]
  refine wpAnyH_done (by kernel_rfl) ?_ _
  have hb03 := HB.out.trans (HB3.out.mono (Nat.le_of_lt hg0))
  have hbx : Below w.heap.size w w3 := by rw [HG.out]; exact hb03
  have HBX := Lib.hid hbx
  have hs3 := hbx.size
  have HWY := Lib.hid (way_any (some none) (some g0t) none 0 0 [] w3 ⟨g0t, rfl, (HT.out.below hbx (Nat.le_refl _)).more hs3⟩ ⟨rfl, fun h => absurd h (Nat.lt_irrefl 0)⟩ (by omega))
  rw [ptr_some] at HWY
  clear hbx hb03 HRUN HRG HW3 HB3 cb HT HB hpb hg0
  cases is with
  | true =>
    go_wp2_with fail
    refine bodyPost_ret (results_none rfl _ _ _) rfl ?_
    exact ⟨rfl, HBX.out⟩
  | false =>
    go_wp2_with fail
    refine HWY.out.mono ?_
    rintro e w4 hpost
    rcases hpost with ⟨_, rfl, hb4⟩ | ⟨s', xs, A, na, ca, A', na', ca', hs', _⟩
    · have HB4 := Lib.hid (HBX.out.trans (hb4.mono hs3))
      clear hb4 HWY
      simp only []
      have hz64 := zero64
      iterate 13 go_step
      clear hz64
      have hwm := Whole.made w4 47 z64
      refine wpList_store_mid rfl 47 (.tmp 10) (.tmp 26) rfl w4.heap.size 0 z64 rfl rfl hwm.there_ (by rw [z64_size]; exact info64) z64_one ?_
      have hbs : Below w4.heap.size w4 ((w4.alloc (.cells z64 47)).setCells w4.heap.size 0 z64.toList) := below_setCells w4 w4.heap.size _ 0 ((Below.refl _ _).alloc (Nat.le_refl _) _) (Nat.le_refl _)
      generalize (w4.alloc (.cells z64 47)).setCells w4.heap.size 0 z64.toList = w5 at *
      have HB5 := Lib.hid (HB4.out.trans (hbs.mono (by have := HB4.out.size; omega)))
      clear hbs hwm HB4
      go_wp2_with fail
      refine bodyPost_ret (results_none rfl _ _ _) rfl ?_
      exact ⟨rfl, HB5.out⟩
    · cases hs'
end Go.Proofs.YtolkpjbbfopmnaaDoor
