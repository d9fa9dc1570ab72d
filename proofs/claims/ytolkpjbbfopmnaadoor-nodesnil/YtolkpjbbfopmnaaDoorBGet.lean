/-
  What Get of a base returns: the bytes of the node under a sum, or that there is none; conditions: the base lies in memory, the sum has 32 bytes, the node under it can be read. It only makes memory of its own.
-/
import Derived.Test.YtolkpjbbfopmnaaDoorBase
namespace Go.Proofs.YtolkpjbbfopmnaaDoor
open Go.RowKit Go.Shelf
open Tr

theorem range_keep {w w' : World} {B b o : Nat} {cs : List Value} (h : w.rangeAt b o cs) (hb : Below B w w') (hB : b < B) : w'.rangeAt b o cs := fun j v hv => (hb.cell (p := ⟨b, o + j, none⟩) hB).trans (h j v hv)
def BGetPost (w : World) (is : Bool) (nd : Tl.Tlv.Nd) (e : Ending) (w' : World) : Prop :=
  (is = false → e = .returned (.tuple #[.slice none 0 0, .bool false])) ∧ (is = true → ∃ A n c, e = .returned (.tuple #[.slice A n c, .bool (decide ((Tl.Tlv.enc nd).1 = 0))]) ∧ Rd w' w'.heap.size A n (Tl.Tlv.enc nd).2 ∧ n ≤ c ∧ Tl.Fresh w.heap.size w' A) ∧ Below w.heap.size w w'

set_option maxRecDepth 100000 in
set_option maxHeartbeats 1000000 in
theorem get_core (pb M : Nat) (ms : List (List UInt8 × Value)) (h : List UInt8) (hl : h.length = 32) (X : Array Value) (is : Bool) (w : World) (hB : BAt w pb M ms) (hX : X.size = 68) (hone : X.all (·.oneCell') = true)
    (hrun : ∀ u, MAt u M ms → (Instr.lookup 94 (.map (some M)) (.agg (Sh.bcells h)) true).run Tryd.prog u = .ok (.tuple #[.agg X, .bool is]) u)
    (nd : Tl.Tlv.Nd) (hnd : is = true → ∃ A n c A' n' c', X = (Tl.ndc A n c A' n' c' nd).toArray ∧ Tl.NRd w w.heap.size A n c A' n' c' nd) (hf : nd.fit) :
    Calls Tryd.prog 18 #[ptr (some pb), .agg (Sh.bcells h)] w (BGetPost w is nd) := by
  have hb := (Below.refl w.heap.size w).alloc (Nat.le_refl _) (.cells (Sh.bcells h) 29)
  have hw := Whole.made w 29 (Sh.bcells h)
  have cb0 := hB.1.at_ (i := 0) rfl
  have cb : (w.alloc (.cells (Sh.bcells h) 29)).cell? ⟨pb, 0, none⟩ = some (.map (some M)) := (hb.cell (p := ⟨pb, 0, none⟩) hB.1.lt).trans cb0
  have hpb : pb < (w.alloc (.cells (Sh.bcells h) 29)).heap.size := Nat.lt_of_lt_of_le hB.1.lt hb.size
  have hrange := hw.range
  have hg0 : w.heap.size < (w.alloc (.cells (Sh.bcells h) 29)).heap.size := by simp
  have HRG : Hid ((w.alloc (.cells (Sh.bcells h) 29)).rangeAt w.heap.size 0 (h.map V8)) := Lib.hid hrange
  have HRUN := Lib.hid (fun (u : World) (hbu : Below (w.alloc (.cells (Sh.bcells h) 29)).heap.size (w.alloc (.cells (Sh.bcells h) 29)) u) => hrun u ((hB.below hb).below hbu).2.1)
  have HI : Hid ((Tryd.prog.info? 29).map (·.size) = some (h.map V8).length) := Lib.hid (by rw [List.length_map, hl]; exact info49)
  have HB := Lib.hid hb
  have HND := Lib.hid (And.intro hnd hf)
  clear hb hw cb0 hrange hrun hB hnd hf
  change Hid (∀ (u : World), Below (w.alloc (.cells (Sh.bcells h) 29)).heap.size (w.alloc (.cells (Sh.bcells h) 29)) u → (Instr.lookup 94 (.map (some M)) (.agg (h.map V8).toArray) true).run Tryd.prog u = .ok (.tuple #[.agg X, .bool is]) u) at HRUN
  obtain ⟨g0, hgg⟩ : ∃ g, w.heap.size = g := ⟨_, rfl⟩
  rw [hgg] at HRG hg0 HB
  have HG := Lib.hid hgg
  rw [ptr_some]
  go_enter Tryd.func18, Tryd.ntmps18
  go_upto_region 1 with (fail)
  generalize w.alloc (.cells (Sh.bcells h) 29) = w1 at *
  clear hgg
  go_upto_region 3 with (fail)
  have hS0 : w1.drew.cell? ⟨pb, 0, none⟩ = some (.map (some M)) ∧ w1.drew.rangeAt g0 0 (h.map V8) ∧ (Instr.lookup 94 (.map (some M)) (.agg (h.map V8).toArray) true).run Tryd.prog w1.drew = .ok (.tuple #[.agg X, .bool is]) w1.drew := ⟨cb, HRG.out, HRUN.out w1.drew (Below.refl _ _).drew⟩
  refine wp_region_held_drew (S := fun u => u.cell? ⟨pb, 0, none⟩ = some (.map (some M)) ∧ u.rangeAt g0 0 (h.map V8) ∧ (Instr.lookup 94 (.map (some M)) (.agg (h.map V8).toArray) true).run Tryd.prog u = .ok (.tuple #[.agg X, .bool is]) u) (by kernel_rfl) hS0 (fun hHeld => ?_)
  refine wpAnyH_take (i := 0) (oi := { dst := some 13, op := Op.move (Operand.tmp 0), type := 50, pos := "nodes.go:49", after := #[], guard := none }) (v := ?_) rfl (by kernel_rfl) (by kernel_rfl) (by kernel_rfl) (fun _ _ _ h => h) (Or.inl ⟨by rfl, ?_⟩) (by assumption) ?_
  rotate_left
  · first | (intro w hSw; (try dsimp only at hSw); go_simp; done) | (intro w hSw; (try dsimp only at hSw); go_simp; with_reducible rfl)
  simp only [Act.put, List.setIfInBounds_toArray, List.set_cons_zero, List.set_cons_succ]
  refine wpAnyH_take (i := 1) (oi := { dst := some 14, op := Op.nilCheck (Operand.tmp 13), type := 0, pos := "nodes.go:49", after := #[{ on := 0, ground := Ground.data }], guard := none }) (v := ?_) rfl (by kernel_rfl) (by kernel_rfl) (by kernel_rfl) (fun _ _ _ h => h) (Or.inl ⟨by rfl, ?_⟩) (by assumption) ?_
  rotate_left
  · first | (intro w hSw; (try dsimp only at hSw); go_simp; done) | (intro w hSw; (try dsimp only at hSw); go_simp; with_reducible rfl)
  simp only [Act.put, List.setIfInBounds_toArray, List.set_cons_zero, List.set_cons_succ]
  refine wpAnyH_take (i := 2) (oi := { dst := some 15, op := Op.fieldAddr 96 (Operand.tmp 14) 0, type := 0, pos := "nodes.go:49", after := #[{ on := 1, ground := Ground.data }], guard := none }) (v := ?_) rfl (by kernel_rfl) (by kernel_rfl) (by kernel_rfl) (fun _ _ _ h => h) (Or.inl ⟨by rfl, ?_⟩) (by assumption) ?_
  rotate_left
  · first | (intro w hSw; (try dsimp only at hSw); go_simp; done) | (intro w hSw; (try dsimp only at hSw); go_simp; with_reducible rfl)
  simp only [Act.put, List.setIfInBounds_toArray, List.set_cons_zero, List.set_cons_succ]
  refine wpAnyH_take (i := 3) (oi := { dst := some 16, op := Op.load 94 (Operand.tmp 15), type := 94, pos := "nodes.go:49", after := #[{ on := 2, ground := Ground.data }], guard := none }) (v := ?_) rfl (by kernel_rfl) (by kernel_rfl) (by kernel_rfl) (fun _ _ _ h => h) (Or.inl ⟨by rfl, ?_⟩) (by assumption) ?_
  rotate_left
  · first | (intro w hSw; (try dsimp only at hSw); go_simp; done) | (intro w hSw; (try dsimp only at hSw); go_simp; with_reducible rfl)
  simp only [Act.put, List.setIfInBounds_toArray, List.set_cons_zero, List.set_cons_succ]
  refine wpAnyH_take (i := 4) (oi := { dst := some 17, op := Op.load 29 (Operand.tmp 3), type := 29, pos := "nodes.go:49", after := #[], guard := none }) (v := .agg (h.map V8).toArray) rfl (by kernel_rfl) (by kernel_rfl) (by kernel_rfl) (fun _ _ _ h => h) (yieldsIf_load_mid (by rfl) 29 (.tmp 3) rfl g0 0 rfl (h.map V8) _ (fun _ h => h.2.1) Tryd.underlying29 rfl HI.out) (by assumption) ?_
  simp only [Act.put, List.setIfInBounds_toArray, List.set_cons_zero, List.set_cons_succ]
  refine wpAnyH_take (i := 5) (oi := { dst := some 18, op := Op.lookup 94 (Operand.tmp 16) (Operand.tmp 17) true, type := 74, pos := "nodes.go:49", after := #[{ on := 3, ground := Ground.data }, { on := 4, ground := Ground.data }], guard := none }) (v := ?_) rfl (by kernel_rfl) (by kernel_rfl) (by kernel_rfl) (fun _ _ _ h => h) (Or.inl ⟨by rfl, ?_⟩) (by assumption) ?_
  rotate_left
  · first | (intro w hSw; (try dsimp only at hSw); go_simp; done) | (intro w hSw; (try dsimp only at hSw); go_simp; with_reducible rfl)
  simp only [Act.put, List.setIfInBounds_toArray, List.set_cons_zero, List.set_cons_succ]
  refine wpAnyH_take (i := 6) (oi := { dst := some 12, op := Op.move (Operand.tmp 18), type := 74, pos := "nodes.go:49", after := #[{ on := 5, ground := Ground.data }], guard := none }) (v := ?_) rfl (by kernel_rfl) (by kernel_rfl) (by kernel_rfl) (fun _ _ _ h => h) (Or.inl ⟨by rfl, ?_⟩) (by assumption) ?_
  rotate_left
  · first | (intro w hSw; (try dsimp only at hSw); go_simp; done) | (intro w hSw; (try dsimp only at hSw); go_simp; with_reducible rfl)
  simp only [Act.put, List.setIfInBounds_toArray, List.set_cons_zero, List.set_cons_succ]
  refine wpAnyH_take (i := 7) (oi := { dst := some 19, op := Op.extract (Operand.tmp 12) 0, type := 47, pos := "nodes.go:49", after := #[{ on := 6, ground := Ground.data }], guard := none }) (v := ?_) rfl (by kernel_rfl) (by kernel_rfl) (by kernel_rfl) (fun _ _ _ h => h) (Or.inl ⟨by rfl, ?_⟩) (by assumption) ?_
  rotate_left
  · first | (intro w hSw; (try dsimp only at hSw); go_simp; done) | (intro w hSw; (try dsimp only at hSw); go_simp; with_reducible rfl)
  simp only [Act.put, List.setIfInBounds_toArray, List.set_cons_zero, List.set_cons_succ]
  refine wpAnyH_take (i := 8) (oi := { dst := some 20, op := Op.extract (Operand.tmp 12) 1, type := 4, pos := "nodes.go:49", after := #[{ on := 6, ground := Ground.data }, { on := 10, ground := Ground.gcOnly Departure.lateStores }], guard := none }) (v := ?_) rfl (by kernel_rfl) (by kernel_rfl) (by kernel_rfl) (fun _ _ _ h => h) (Or.inl ⟨by rfl, ?_⟩) (by assumption) ?_
  rotate_left
  · first | (intro w hSw; (try dsimp only at hSw); go_simp; done) | (intro w hSw; (try dsimp only at hSw); go_simp; with_reducible rfl)
  simp only [Act.put, List.setIfInBounds_toArray, List.set_cons_zero, List.set_cons_succ]
  have hz64 := zero64
  refine wpAnyH_ready (rs := [9]) (by kernel_rfl) (by simp) ?_
  refine AllReadyH.cons (o := { dst := some 6, op := Op.alloc 47, type := 0, pos := "nodes.go:49", after := #[], guard := none }) rfl (fun K hK => ?_) AllReadyH.nil
  go_simp
  have hb2 : Below w1.heap.size w1 (w1.alloc (.cells z64 47)).drew := ((Below.refl _ _).alloc (Nat.le_refl _) _).drew
  have hw2 : Whole (w1.alloc (.cells z64 47)).drew w1.heap.size 47 z64 := Whole.made w1 47 z64
  refine hK.out _ _ ⟨(hb2.cell (p := ⟨pb, 0, none⟩) hpb).trans cb, range_keep HRG.out hb2 hg0, HRUN.out _ hb2⟩ (fun _ => ?_)
  clear hK K hHeld hS0 hz64
  refine wpAnyH_ready (rs := [10]) (by kernel_rfl) (by simp) ?_
  refine AllReadyH.cons (o := { dst := none, op := Op.store 47 (Operand.tmp 6) (Operand.tmp 19), type := 0, pos := "nodes.go:49", after := #[{ on := 9, ground := Ground.data }, { on := 7, ground := Ground.data }, { on := 0, ground := Ground.phase }, { on := 1, ground := Ground.phase }, { on := 2, ground := Ground.phase }, { on := 3, ground := Ground.phase }, { on := 4, ground := Ground.phase }, { on := 5, ground := Ground.phase }, { on := 6, ground := Ground.phase }, { on := 7, ground := Ground.phase }, { on := 8, ground := Ground.textOnly Departure.lateStores }, { on := 9, ground := Ground.phase }], guard := none }) rfl (fun K hK => ?_) AllReadyH.nil
  refine Eq.mpr (if_pos (by rfl)) ?_
  refine wp_store_mid 47 (.tmp 6) (.tmp 19) rfl w1.heap.size 0 X rfl rfl ?_ ?_ hone ?_
  · rw [hX]; exact hw2.there_
  · rw [hX]; exact info64
  have hw3 := hw2.setAll (vs := X) (by rw [hX]; rfl)
  have hb3 : Below w1.heap.size w1 ((w1.alloc (.cells z64 47)).drew.setCells w1.heap.size 0 X.toList) := below_setCells w1 w1.heap.size _ 0 hb2 (Nat.le_refl _)
  refine hK.out _ _ ⟨(hb3.cell (p := ⟨pb, 0, none⟩) hpb).trans cb, range_keep HRG.out hb3 hg0, HRUN.out _ hb3⟩ (fun _ => ?_)
  clear hK K hb2 hw2
  have HW3 : Hid (Whole ((w1.alloc (.cells z64 47)).drew.setCells w1.heap.size 0 X.toList) w1.heap.size 47 X) := Lib.hid hw3
  have HB3 := Lib.hid hb3
  clear hw3 hb3
  generalize (w1.alloc (.cells z64 47)).drew.setCells w1.heap.size 0 X.toList = w3 at *
  refine wpAnyH_take (i := 11) (oi := { dst := some 7, op := Op.assign (Operand.tmp 20), type := 4, pos := "nodes.go:49", after := #[{ on := 8, ground := Ground.data }, { on := 10, ground := Ground.chain }, { on := 0, ground := Ground.phase }, { on := 1, ground := Ground.phase }, { on := 2, ground := Ground.phase }, { on := 3, ground := Ground.phase }, { on := 4, ground := Ground.phase }, { on := 5, ground := Ground.phase }, { on := 6, ground := Ground.phase }, { on := 7, ground := Ground.phase }, { on := 8, ground := Ground.phase }, { on := 9, ground := Ground.phase }, { on := 10, ground := Ground.phase }], guard := none }) (v := ?_) rfl (by kernel_rfl) (by kernel_rfl) (by kernel_rfl) (fun _ _ _ h => h) (Or.inl ⟨by rfl, ?_⟩) (by assumption) ?_
  rotate_left
  · first | (intro w hSw; (try dsimp only at hSw); go_simp; done) | (intro w hSw; (try dsimp only at hSw); go_simp; with_reducible rfl)
  simp only [Act.put, List.setIfInBounds_toArray, List.set_cons_zero, List.set_cons_succ]
  refine wpAnyH_done (by kernel_rfl) ?_ _
  cases is with
  | false =>
    have HEND := Lib.hid (HB.out.trans (HB3.out.mono (Nat.le_of_lt hg0)))
    clear HRUN HRG HW3 HB3 cb
    go_wp2_with fail
    go_ret2
    exact ⟨fun _ => rfl, fun h => (by cases h), by rw [HG.out]; exact HEND.out⟩
  | true =>
    obtain ⟨A, n, c, A', n', c', hXe, hN⟩ := HND.out.1 rfl
    have hb13 := HB.out.trans (HB3.out.mono (Nat.le_of_lt hg0))
    have hN3 : Tl.NRd w3 w3.heap.size A n c A' n' c' nd := (hN.below hb13 (by rw [HG.out]; exact Nat.le_refl _)).more hb13.size
    have HENC := Lib.hid (Tl.encode_new A n c A' n' c' nd w3 hN3 HND.out.2)
    rw [← hXe] at HENC
    have HI35 : Hid ((Tryd.prog.info? 47).map (·.size) = some X.size) := Lib.hid (by rw [hX]; exact info64)
    have HB13 := Lib.hid hb13
    clear hXe hN hN3 hb13 HRUN HRG HB3 cb
    go_upto_region 6 with (fail)
    refine wp_region_lit ?_
    refine wpList_load_mid rfl 47 (.tmp 6) rfl w1.heap.size 0 rfl X.toList _ HW3.out.range Tryd.underlying47 rfl (by rw [Array.length_toList]; exact HI35.out) ?_
    go_wp2_with fail
    refine HENC.out.mono ?_
    rintro e w4 ⟨Ae, ne, ce, rfl, hre, hce, hnew, hb4⟩
    have HEND := Lib.hid (HB13.out.trans (hb4.mono (by have := HB13.out.size; rw [← HG.out]; exact this)))
    have hsw : w.heap.size ≤ w3.heap.size := HB13.out.size
    obtain ⟨ec, hec⟩ : ∃ x, (Tl.Tlv.enc nd).1 = x := ⟨_, rfl⟩
    have hq : ((ec : Int) == 0) = decide (ec = 0) := by rw [Bool.eq_iff_iff, beq_iff_eq, decide_eq_true_iff]; omega
    obtain ⟨d, hd⟩ : ∃ d, decide (ec = 0) = d := ⟨_, rfl⟩
    rw [hd] at hq
    have HR := Lib.hid (And.intro hre (And.intro hce (show Tl.Fresh w.heap.size w4 Ae from hnew.less hsw)))
    have HD := Lib.hid (And.intro hec hd)
    simp only [hec]
    clear hre hce hnew hb4 HENC HW3 HB13 hec hd
    go_wp2_with fail
    go_ret2
    refine ⟨fun h => (by cases h), fun _ => ⟨Ae, ne, ce, ?_, HR.out.1, HR.out.2.1, HR.out.2.2⟩, by rw [HG.out]; exact HEND.out⟩
    rw [HD.out.1, HD.out.2]
    rfl
end Go.Proofs.YtolkpjbbfopmnaaDoor
