/-
  Bases of nodes in memory; what New returns, and the calls on a nil one: no condition. They only make memory of their own.
  What Get of a base returns: the bytes of the node under a sum, or that there is none; conditions: the base lies in memory, the sum has 32 bytes, the node under it can be read. It only makes memory of its own.
  A way in a row of the call's own: a step more, in its spare room or in a new row; the row with the step left out again: no condition.
  What save of a base does: the node of a sum, to which a way leads, is there then, and what was there stays; conditions: the base and the tree lie in memory ahead of the way's row. It writes into the base's map, the row's spare room and memory of its own alone.
  What save of a base does, of a tree's nodes and of a tree that has none; conditions as ahead.
  What Save of a base does: a tree's root is there, what was there stays; conditions: the base and the tree lie in memory.
  A tree's root as a node with its bytes, and Get of a base that has it; conditions: the tree's keys are no empty ones.
  The texts of a tree's nodes: where no two unlike ones have one sum, equal sums are equal nodes, and a save brings all of them; no condition else.
  The tree of chapter 8's example: its nodes' texts are all unlike in their sums.
-/
import Derived.Laws.Tables
import Derived.Shelf.Abstract
import Derived.Test.YtolkpjbbfopmnaaDoorCY07
import Derived.Test.YtolkpjbbfopmnaaDoorCY09
import Derived.Test.YtolkpjbbfopmnaaDoorCY12
namespace Go.Proofs.YtolkpjbbfopmnaaDoor
open Go.RowKit Go.Shelf
open Tr

/-- Block pb is a base: its map is block M, with these pairs. -/
def BAt (w : World) (pb M : Nat) (ms : List (List UInt8 × Value)) : Prop := Whole w pb 96 #[.map (some M)] ∧ MAt w M ms ∧ pb ≠ M
theorem MAt.block {w w' : World} {M : Nat} {ms : List (List UInt8 × Value)} (h : MAt w M ms) (hk : w'.heap[M]? = w.heap[M]?) : MAt w' M ms := by
  obtain ⟨es, c, h1, h2⟩ := h
  exact ⟨es, c, hk.trans h1, h2⟩
theorem MAt.lt {w : World} {M : Nat} {ms : List (List UInt8 × Value)} (h : MAt w M ms) : M < w.heap.size := by
  obtain ⟨es, c, h1, _⟩ := h
  exact (Array.getElem?_eq_some_iff.1 h1).1
theorem BAt.below {w w' : World} {pb M : Nat} {ms : List (List UInt8 × Value)} (h : BAt w pb M ms) (hb : Below w.heap.size w w') : BAt w' pb M ms :=
  ⟨h.1.below hb h.1.lt, h.2.1.block (hb.block M h.2.1.lt), h.2.2⟩
theorem built_base (M : Nat) (w : World) : (Instr.build 96 #[(0, .map (some M))]).run Tryd.prog w = .ok (.agg #[.map (some M)]) w := run_build w 96 #[(0, .map (some M))] #[.map (some M)] (by kernel_rfl)
theorem mat_made (w : World) : MAt (w.alloc (.map #[] 0)) w.heap.size [] := ⟨#[], 0, heap_alloc_last w _, rfl, rfl, fun p hp => by simp at hp⟩

set_option maxRecDepth 100000 in
theorem base_new (w : World) : Calls Tryd.prog 19 #[] w fun e w' => ∃ pb M, e = .returned (ptr (some pb)) ∧ BAt w' pb M [] ∧ w.heap.size ≤ pb ∧ w.heap.size ≤ M ∧ Below w.heap.size w w' := by
  have hmm := @run_makeMap Tryd.prog
  have hbb := built_base
  go_enter Tryd.func19, Tryd.ntmps19
  go_wp2
  go_ret
  have hm := mat_made w
  have hb : Below w.heap.size w ((w.alloc (.map #[] 0)).alloc (.cells #[.map (some w.heap.size)] 96)) := ((Below.refl _ _).alloc (Nat.le_refl _) _).alloc (by simp) _
  have hw := Whole.made (w.alloc (.map #[] 0)) 96 #[.map (some w.heap.size)]
  rw [size_alloc] at hw
  refine ⟨w.heap.size + 1, w.heap.size, rfl, ⟨hw, hm.block ?_, by omega⟩, by omega, Nat.le_refl _, hb⟩
  exact Below.heap_alloc (w.alloc (.map #[] 0)) _ w.heap.size (by simp)

end Go.Proofs.YtolkpjbbfopmnaaDoor
namespace Go.Proofs.YtolkpjbbfopmnaaDoor
open Go.RowKit Go.Shelf
open Tr

theorem range_keep {w w' : World} {B b o : Nat} {cs : List Value} (h : w.rangeAt b o cs) (hb : Below B w w') (hB : b < B) : w'.rangeAt b o cs := fun j v hv => (hb.cell (p := ⟨b, o + j, none⟩) hB).trans (h j v hv)
def BGetPost (w : World) (is : Bool) (nd : Tl.Tlv.Nd) (e : Ending) (w' : World) : Prop :=
  (is = false → e = .returned (.tuple #[.slice none 0 0, .bool false])) ∧ (is = true → ∃ A n c, e = .returned (.tuple #[.slice A n c, .bool (decide ((Tl.Tlv.enc nd).1 = 0))]) ∧ Rd w' w'.heap.size A n (Tl.Tlv.enc nd).2 ∧ n ≤ c ∧ Tl.Fresh w.heap.size w' A) ∧ Below w.heap.size w w'

set_option maxRecDepth 100000 in
set_option maxHeartbeats 1000000 in
theorem get_core (pb M : Nat) (ms : List (List UInt8 × Value)) (h : List UInt8) (hl : h.length = 32) (X : Array Value) (is : Bool) (w : World) (hB : BAt w pb M ms) (hX : X.size = 68) (hone : X.all (·.oneCell') = true)
    (hrun : ∀ u, MAt u M ms → (Instr.lookup 94 (.map (some M)) (.agg (Sh.bcells h)) true).run Tryd.prog u = .ok (.tuple #[.agg X, .bool is]) u)
    (nd : Tl.Tlv.Nd) (hnd : is = true → ∃ A n c A' n' c', X = (Tl.ndc A n c A' n' c' nd).toArray ∧ Tl.NRd w w.heap.size A n c A' n' c' nd) (hf : nd.fit) :
    Calls Tryd.prog 18 #[ptr (some pb), .agg (Sh.bcells h)] w (BGetPost w is nd) := by
  have hb := (Below.refl w.heap.size w).alloc (Nat.le_refl _) (.cells (Sh.bcells h) 29)
  have hw := Whole.made w 29 (Sh.bcells h)
  have cb0 := hB.1.at_ (i := 0) rfl
  have cb : (w.alloc (.cells (Sh.bcells h) 29)).cell? ⟨pb, 0, none⟩ = some (.map (some M)) := (hb.cell (p := ⟨pb, 0, none⟩) hB.1.lt).trans cb0
  have hpb : pb < (w.alloc (.cells (Sh.bcells h) 29)).heap.size := Nat.lt_of_lt_of_le hB.1.lt hb.size
  have hrange := hw.range
  have hg0 : w.heap.size < (w.alloc (.cells (Sh.bcells h) 29)).heap.size := by simp
  have HRG : Hid ((w.alloc (.cells (Sh.bcells h) 29)).rangeAt w.heap.size 0 (h.map V8)) := Lib.hid hrange
  have HRUN := Lib.hid (fun (u : World) (hbu : Below (w.alloc (.cells (Sh.bcells h) 29)).heap.size (w.alloc (.cells (Sh.bcells h) 29)) u) => hrun u ((hB.below hb).below hbu).2.1)
  have HI : Hid ((Tryd.prog.info? 29).map (·.size) = some (h.map V8).length) := Lib.hid (by rw [List.length_map, hl]; exact info49)
  have HB := Lib.hid hb
  have HND := Lib.hid (And.intro hnd hf)
  clear hb hw cb0 hrange hrun hB hnd hf
  change Hid (∀ (u : World), Below (w.alloc (.cells (Sh.bcells h) 29)).heap.size (w.alloc (.cells (Sh.bcells h) 29)) u → (Instr.lookup 94 (.map (some M)) (.agg (h.map V8).toArray) true).run Tryd.prog u = .ok (.tuple #[.agg X, .bool is]) u) at HRUN
  obtain ⟨g0, hgg⟩ : ∃ g, w.heap.size = g := ⟨_, rfl⟩
  rw [hgg] at HRG hg0 HB
  have HG := Lib.hid hgg
  rw [ptr_some]
  go_enter Tryd.func18, Tryd.ntmps18
  go_upto_region 1 with (fail)
  generalize w.alloc (.cells (Sh.bcells h) 29) = w1 at *
  clear hgg
  go_upto_region 3 with (fail)
  have hS0 : w1.drew.cell? ⟨pb, 0, none⟩ = some (.map (some M)) ∧ w1.drew.rangeAt g0 0 (h.map V8) ∧ (Instr.lookup 94 (.map (some M)) (.agg (h.map V8).toArray) true).run Tryd.prog w1.drew = .ok (.tuple #[.agg X, .bool is]) w1.drew := ⟨cb, HRG.out, HRUN.out w1.drew (Below.refl _ _).drew⟩
  refine wp_region_held_drew (S := fun u => u.cell? ⟨pb, 0, none⟩ = some (.map (some M)) ∧ u.rangeAt g0 0 (h.map V8) ∧ (Instr.lookup 94 (.map (some M)) (.agg (h.map V8).toArray) true).run Tryd.prog u = .ok (.tuple #[.agg X, .bool is]) u) (by kernel_rfl) hS0 (fun hHeld => ?_)
  refine wpAnyH_take (i := 0) (oi := { dst := some 13, op := Op.move (Operand.tmp 0), type := 50, pos := "nodes.go:49", after := #[], guard := none }) (v := ?_) rfl (by kernel_rfl) (by kernel_rfl) (by kernel_rfl) (fun _ _ _ h => h) (Or.inl ⟨by rfl, ?_⟩) (by assumption) ?_
  rotate_left
  · first | (intro w hSw; (try dsimp only at hSw); go_simp; done) | (intro w hSw; (try dsimp only at hSw); go_simp; with_reducible rfl)
  simp only [Act.put, List.setIfInBounds_toArray, List.set_cons_zero, List.set_cons_succ]
  refine wpAnyH_take (i := 1) (oi := { dst := some 14, op := Op.nilCheck (Operand.tmp 13), type := 0, pos := "nodes.go:49", after := #[{ on := 0, ground := Ground.data }], guard := none }) (v := ?_) rfl (by kernel_rfl) (by kernel_rfl) (by kernel_rfl) (fun _ _ _ h => h) (Or.inl ⟨by rfl, ?_⟩) (by assumption) ?_
  rotate_left
  · first | (intro w hSw; (try dsimp only at hSw); go_simp; done) | (intro w hSw; (try dsimp only at hSw); go_simp; with_reducible rfl)
  simp only [Act.put, List.setIfInBounds_toArray, List.set_cons_zero, List.set_cons_succ]
  refine wpAnyH_take (i := 2) (oi := { dst := some 15, op := Op.fieldAddr 96 (Operand.tmp 14) 0, type := 0, pos := "nodes.go:49", after := #[{ on := 1, ground := Ground.data }], guard := none }) (v := ?_) rfl (by kernel_rfl) (by kernel_rfl) (by kernel_rfl) (fun _ _ _ h => h) (Or.inl ⟨by rfl, ?_⟩) (by assumption) ?_
  rotate_left
  · first | (intro w hSw; (try dsimp only at hSw); go_simp; done) | (intro w hSw; (try dsimp only at hSw); go_simp; with_reducible rfl)
  simp only [Act.put, List.setIfInBounds_toArray, List.set_cons_zero, List.set_cons_succ]
  refine wpAnyH_take (i := 3) (oi := { dst := some 16, op := Op.load 94 (Operand.tmp 15), type := 94, pos := "nodes.go:49", after := #[{ on := 2, ground := Ground.data }], guard := none }) (v := ?_) rfl (by kernel_rfl) (by kernel_rfl) (by kernel_rfl) (fun _ _ _ h => h) (Or.inl ⟨by rfl, ?_⟩) (by assumption) ?_
  rotate_left
  · first | (intro w hSw; (try dsimp only at hSw); go_simp; done) | (intro w hSw; (try dsimp only at hSw); go_simp; with_reducible rfl)
  simp only [Act.put, List.setIfInBounds_toArray, List.set_cons_zero, List.set_cons_succ]
  refine wpAnyH_take (i := 4) (oi := { dst := some 17, op := Op.load 29 (Operand.tmp 3), type := 29, pos := "nodes.go:49", after := #[], guard := none }) (v := .agg (h.map V8).toArray) rfl (by kernel_rfl) (by kernel_rfl) (by kernel_rfl) (fun _ _ _ h => h) (yieldsIf_load_mid (by rfl) 29 (.tmp 3) rfl g0 0 rfl (h.map V8) _ (fun _ h => h.2.1) Tryd.underlying29 rfl HI.out) (by assumption) ?_
  simp only [Act.put, List.setIfInBounds_toArray, List.set_cons_zero, List.set_cons_succ]
  refine wpAnyH_take (i := 5) (oi := { dst := some 18, op := Op.lookup 94 (Operand.tmp 16) (Operand.tmp 17) true, type := 74, pos := "nodes.go:49", after := #[{ on := 3, ground := Ground.data }, { on := 4, ground := Ground.data }], guard := none }) (v := ?_) rfl (by kernel_rfl) (by kernel_rfl) (by kernel_rfl) (fun _ _ _ h => h) (Or.inl ⟨by rfl, ?_⟩) (by assumption) ?_
  rotate_left
  · first | (intro w hSw; (try dsimp only at hSw); go_simp; done) | (intro w hSw; (try dsimp only at hSw); go_simp; with_reducible rfl)
  simp only [Act.put, List.setIfInBounds_toArray, List.set_cons_zero, List.set_cons_succ]
  refine wpAnyH_take (i := 6) (oi := { dst := some 12, op := Op.move (Operand.tmp 18), type := 74, pos := "nodes.go:49", after := #[{ on := 5, ground := Ground.data }], guard := none }) (v := ?_) rfl (by kernel_rfl) (by kernel_rfl) (by kernel_rfl) (fun _ _ _ h => h) (Or.inl ⟨by rfl, ?_⟩) (by assumption) ?_
  rotate_left
  · first | (intro w hSw; (try dsimp only at hSw); go_simp; done) | (intro w hSw; (try dsimp only at hSw); go_simp; with_reducible rfl)
  simp only [Act.put, List.setIfInBounds_toArray, List.set_cons_zero, List.set_cons_succ]
  refine wpAnyH_take (i := 7) (oi := { dst := some 19, op := Op.extract (Operand.tmp 12) 0, type := 47, pos := "nodes.go:49", after := #[{ on := 6, ground := Ground.data }], guard := none }) (v := ?_) rfl (by kernel_rfl) (by kernel_rfl) (by kernel_rfl) (fun _ _ _ h => h) (Or.inl ⟨by rfl, ?_⟩) (by assumption) ?_
  rotate_left
  · first | (intro w hSw; (try dsimp only at hSw); go_simp; done) | (intro w hSw; (try dsimp only at hSw); go_simp; with_reducible rfl)
  simp only [Act.put, List.setIfInBounds_toArray, List.set_cons_zero, List.set_cons_succ]
  refine wpAnyH_take (i := 8) (oi := { dst := some 20, op := Op.extract (Operand.tmp 12) 1, type := 4, pos := "nodes.go:49", after := #[{ on := 6, ground := Ground.data }, { on := 10, ground := Ground.gcOnly Departure.lateStores }], guard := none }) (v := ?_) rfl (by kernel_rfl) (by kernel_rfl) (by kernel_rfl) (fun _ _ _ h => h) (Or.inl ⟨by rfl, ?_⟩) (by assumption) ?_
  rotate_left
  · first | (intro w hSw; (try dsimp only at hSw); go_simp; done) | (intro w hSw; (try dsimp only at hSw); go_simp; with_reducible rfl)
  simp only [Act.put, List.setIfInBounds_toArray, List.set_cons_zero, List.set_cons_succ]
  have hz64 := zero64
  refine wpAnyH_ready (rs := [9]) (by kernel_rfl) (by simp) ?_
  refine AllReadyH.cons (o := { dst := some 6, op := Op.alloc 47, type := 0, pos := "nodes.go:49", after := #[], guard := none }) rfl (fun K hK => ?_) AllReadyH.nil
  go_simp
  have hb2 : Below w1.heap.size w1 (w1.alloc (.cells z64 47)).drew := ((Below.refl _ _).alloc (Nat.le_refl _) _).drew
  have hw2 : Whole (w1.alloc (.cells z64 47)).drew w1.heap.size 47 z64 := Whole.made w1 47 z64
  refine hK.out _ _ ⟨(hb2.cell (p := ⟨pb, 0, none⟩) hpb).trans cb, range_keep HRG.out hb2 hg0, HRUN.out _ hb2⟩ (fun _ => ?_)
  clear hK K hHeld hS0 hz64
  refine wpAnyH_ready (rs := [10]) (by kernel_rfl) (by simp) ?_
  refine AllReadyH.cons (o := { dst := none, op := Op.store 47 (Operand.tmp 6) (Operand.tmp 19), type := 0, pos := "nodes.go:49", after := #[{ on := 9, ground := Ground.data }, { on := 7, ground := Ground.data }, { on := 0, ground := Ground.phase }, { on := 1, ground := Ground.phase }, { on := 2, ground := Ground.phase }, { on := 3, ground := Ground.phase }, { on := 4, ground := Ground.phase }, { on := 5, ground := Ground.phase }, { on := 6, ground := Ground.phase }, { on := 7, ground := Ground.phase }, { on := 8, ground := Ground.textOnly Departure.lateStores }, { on := 9, ground := Ground.phase }], guard := none }) rfl (fun K hK => ?_) AllReadyH.nil
  refine Eq.mpr (if_pos (by rfl)) ?_
  refine wp_store_mid 47 (.tmp 6) (.tmp 19) rfl w1.heap.size 0 X rfl rfl ?_ ?_ hone ?_
  · rw [hX]; exact hw2.there_
  · rw [hX]; exact info64
  have hw3 := hw2.setAll (vs := X) (by rw [hX]; rfl)
  have hb3 : Below w1.heap.size w1 ((w1.alloc (.cells z64 47)).drew.setCells w1.heap.size 0 X.toList) := below_setCells w1 w1.heap.size _ 0 hb2 (Nat.le_refl _)
  refine hK.out _ _ ⟨(hb3.cell (p := ⟨pb, 0, none⟩) hpb).trans cb, range_keep HRG.out hb3 hg0, HRUN.out _ hb3⟩ (fun _ => ?_)
  clear hK K hb2 hw2
  have HW3 : Hid (Whole ((w1.alloc (.cells z64 47)).drew.setCells w1.heap.size 0 X.toList) w1.heap.size 47 X) := Lib.hid hw3
  have HB3 := Lib.hid hb3
  clear hw3 hb3
  generalize (w1.alloc (.cells z64 47)).drew.setCells w1.heap.size 0 X.toList = w3 at *
  refine wpAnyH_take (i := 11) (oi := { dst := some 7, op := Op.assign (Operand.tmp 20), type := 4, pos := "nodes.go:49", after := #[{ on := 8, ground := Ground.data }, { on := 10, ground := Ground.chain }, { on := 0, ground := Ground.phase }, { on := 1, ground := Ground.phase }, { on := 2, ground := Ground.phase }, { on := 3, ground := Ground.phase }, { on := 4, ground := Ground.phase }, { on := 5, ground := Ground.phase }, { on := 6, ground := Ground.phase }, { on := 7, ground := Ground.phase }, { on := 8, ground := Ground.phase }, { on := 9, ground := Ground.phase }, { on := 10, ground := Ground.phase }], guard := none }) (v := ?_) rfl (by kernel_rfl) (by kernel_rfl) (by kernel_rfl) (fun _ _ _ h => h) (Or.inl ⟨by rfl, ?_⟩) (by assumption) ?_
  rotate_left
  · first | (intro w hSw; (try dsimp only at hSw); go_simp; done) | (intro w hSw; (try dsimp only at hSw); go_simp; with_reducible rfl)
  simp only [Act.put, List.setIfInBounds_toArray, List.set_cons_zero, List.set_cons_succ]
  refine wpAnyH_done (by kernel_rfl) ?_ _
  cases is with
  | false =>
    have HEND := Lib.hid (HB.out.trans (HB3.out.mono (Nat.le_of_lt hg0)))
    clear HRUN HRG HW3 HB3 cb
    go_wp2_with fail
    go_ret2
    exact ⟨fun _ => rfl, fun h => (by cases h), by rw [HG.out]; exact HEND.out⟩
  | true =>
    obtain ⟨A, n, c, A', n', c', hXe, hN⟩ := HND.out.1 rfl
    have hb13 := HB.out.trans (HB3.out.mono (Nat.le_of_lt hg0))
    have hN3 : Tl.NRd w3 w3.heap.size A n c A' n' c' nd := (hN.below hb13 (by rw [HG.out]; exact Nat.le_refl _)).more hb13.size
    have HENC := Lib.hid (Tl.encode_new A n c A' n' c' nd w3 hN3 HND.out.2)
    rw [← hXe] at HENC
    have HI35 : Hid ((Tryd.prog.info? 47).map (·.size) = some X.size) := Lib.hid (by rw [hX]; exact info64)
    have HB13 := Lib.hid hb13
    clear hXe hN hN3 hb13 HRUN HRG HB3 cb
    go_upto_region 6 with (fail)
    refine wp_region_lit ?_
    refine wpList_load_mid rfl 47 (.tmp 6) rfl w1.heap.size 0 rfl X.toList _ HW3.out.range Tryd.underlying47 rfl (by rw [Array.length_toList]; exact HI35.out) ?_
    go_wp2_with fail
    refine HENC.out.mono ?_
    rintro e w4 ⟨Ae, ne, ce, rfl, hre, hce, hnew, hb4⟩
    have HEND := Lib.hid (HB13.out.trans (hb4.mono (by have := HB13.out.size; rw [← HG.out]; exact this)))
    have hsw : w.heap.size ≤ w3.heap.size := HB13.out.size
    obtain ⟨ec, hec⟩ : ∃ x, (Tl.Tlv.enc nd).1 = x := ⟨_, rfl⟩
    have hq : ((ec : Int) == 0) = decide (ec = 0) := by rw [Bool.eq_iff_iff, beq_iff_eq, decide_eq_true_iff]; omega
    obtain ⟨d, hd⟩ : ∃ d, decide (ec = 0) = d := ⟨_, rfl⟩
    rw [hd] at hq
    have HR := Lib.hid (And.intro hre (And.intro hce (show Tl.Fresh w.heap.size w4 Ae from hnew.less hsw)))
    have HD := Lib.hid (And.intro hec hd)
    simp only [hec]
    clear hre hce hnew hb4 HENC HW3 HB13 hec hd
    go_wp2_with fail
    go_ret2
    refine ⟨fun h => (by cases h), fun _ => ⟨Ae, ne, ce, ?_, HR.out.1, HR.out.2.1, HR.out.2.2⟩, by rw [HG.out]; exact HEND.out⟩
    rw [HD.out.1, HD.out.2]
    rfl
end Go.Proofs.YtolkpjbbfopmnaaDoor
namespace Go.Proofs.YtolkpjbbfopmnaaDoor
open Go.RowKit

theorem info4w : (Tryd.prog.info? 4).map (fun i => (i.zero, i.size, i.bytes)) = some (some (.bool false), 1, 1) := by kernel_rfl
theorem own_front {w : World} {base n c : Nat} {W : Option Addr} {xs : List Value} {x : Value} (h : w.ownsRow base 4 1 (.slice W (n + 1) c) (n + 1) (xs ++ [x])) : w.ownsRow base 4 1 (.slice W n c) n xs := by
  have hl := h.1
  rw [List.length_append] at hl
  refine ⟨by simp at hl; omega, ?_⟩
  rcases h.2 with ⟨_, h0⟩ | ⟨g, cap, cur, e, h2, h3, h4, h5, h6, h7⟩
  · omega
  · injection e with e1 _ e3
    subst e1 e3
    refine .inr ⟨g, c, cur, rfl, h2, h3, by omega, h5, h6, ?_⟩
    have hx : xs.length = n := by simp at hl; omega
    have := congrArg (List.take n) h7
    rw [List.take_take, Nat.min_eq_left (by omega), List.take_left' hx] at this
    rw [Nat.mul_one]
    exact this
theorem append_way (w : World) (base : Nat) (W : Option Addr) (n c : Nat) (xs : List Value) (h : w.ownsRow base 4 1 (.slice W n c) n xs) (hbase : base ≤ w.heap.size) (gb : Nat) (x : Value) (ha : w.cell? ⟨gb, 0, none⟩ = some x) (hx : x.oneCell' = true) (hn : n ≤ 1000) (ty : TypeId) :
    ∃ v' w', (Builtin.append_ #[123, 123] ty #[.slice W n c, (.slice (some ⟨gb, 0, none⟩) 1 1)]).run Tryd.prog w = .ok v' w' ∧ w'.ownsRow base 4 1 v' (n + 1) (xs ++ [x]) ∧ w.grownBy w' (Value.slice W n c).ownBlock ∧
      (v' = .slice W (n + 1) c ∨ ∃ b, v'.ownBlock = some b ∧ w.heap.size ≤ b ∧ w'.ownsRow base 4 1 (.slice W n c) n xs) := by
  obtain ⟨i, hi, hz, hsz, hby⟩ := info_of info4w
  by_cases hroom : n + 1 ≤ c
  · rcases h.2 with ⟨e, h0⟩ | ⟨g, cap, cur, e, h2, h3, h4, h5, h6, h7⟩
    · injection e with _ _ e3
      omega
    · injection e with e1 _ e3
      subst e1 e3
      have hw : Whole w g 4 cur := h3
      have hr := run_append_room_cells (P := Tryd.prog) w 123 ty 4 i Tryd.underlying123 hi g 0 n c ⟨gb, 0, none⟩ 1 1 [x] (by rw [hsz]; rfl) (fun j u hu => by
        match j, hu with
        | 0, hu => simp at hu; subst hu; rw [Addr.add_mid]; exact ha) (by intro u hu; simp at hu; subst hu; exact hx) hroom
        (fun j hj => by
          rw [hsz]
          have hj' : j < 1 := hj
          rw [hw.at_ (Array.getElem?_eq_getElem (by omega))]; rfl) (fun j _ => hw.free _)
      rw [hsz, Nat.mul_one, Nat.zero_add] at hr
      refine ⟨_, _, hr, ⟨by rw [List.length_append, h.1]; simp, .inr ⟨g, c, cur.setIfInBounds n x, rfl, h2, hw.set n x, hroom, h5, by simpa using h6, ?_⟩⟩, ?_, .inl rfl⟩
      · rw [Nat.mul_one] at h7 ⊢
        have hcl : n < cur.toList.length := by rw [Array.length_toList]; omega
        rw [Array.toList_setIfInBounds, List.take_add_one, List.take_set_of_le (Nat.le_refl _), h7, List.getElem?_set_self hcl]
        rfl
      · exact ⟨rfl, rfl, rfl, by rw [size_setCells]; exact Nat.le_refl _, fun k hk hne => setCells_other g [x] n w k (fun e => hne (by rw [e]; rfl))⟩
  · cases W with
    | none =>
      obtain rfl : n = 0 := by
        rcases h.2 with ⟨_, h0⟩ | ⟨g, cap, cur, e, _⟩
        · exact h0
        · cases e
      have hlt : gb < w.heap.size := World.block_lt_of_cell? w ⟨gb, 0, none⟩ ha
      have hr : RdV w w.heap.size 1 (some ⟨gb, 0, none⟩) 1 [x] := ⟨rfl, fun _ => ⟨gb, 0, rfl, hlt, fun j u hu => by
        match j, hu with
        | 0, hu => simp at hu; subst hu; exact ha⟩⟩
      obtain ⟨v', w', hrun, hown, hgr, hat⟩ := run_append_rd w base 123 ty 4 _ 1 1 Tryd.underlying123 info4w rfl (by omega) _ 0 xs h _ _ 1 1 [x] hr (by intro u hu; simp at hu; subst hu; exact hx) (by unfold maxLen; omega) (by omega) hbase
      refine ⟨v', w', hrun, hown, hgr, .inr ?_⟩
      rcases hat with hat | hat
      · rcases hown.2 with ⟨_, h0⟩ | ⟨g', cap', cur', e', _⟩
        · omega
        · rw [e'] at hat
          cases hat
      · refine ⟨_, hat, Nat.le_refl _, h.1, .inl ?_⟩
        rcases h.2 with e | ⟨g, cap, cur, e, _⟩
        · exact e
        · cases e
    | some ad =>
      rcases h.2 with ⟨e, _⟩ | ⟨g, cap, cur, e, h2, h3, h4, h5, h6, h7⟩
      · cases e
      · injection e with e1 _ e3
        injection e1 with e1
        subst e1 e3
        have hw : Whole w g 4 cur := h3
        obtain ⟨v', w', hr, hown, hgr⟩ := run_append_arg_grows (P := Tryd.prog) w 123 ty 4 i _ 1 1 Tryd.underlying123 hi hz hsz hby rfl (by omega) ⟨g, 0, none⟩ n c xs h.1 (fun j u hu => by
          exact h.cells (g := g) rfl j u hu) ⟨gb, 0, none⟩ 1 1 [x] rfl (fun j u hu => by
          match j, hu with
          | 0, hu => simp at hu; subst hu; rw [Addr.add_mid]; exact ha) (by omega) (by unfold maxLen; omega) (by omega)
        refine ⟨v', w', hr, ?_, ⟨hgr.os, hgr.tape, hgr.output, hgr.size, fun k hk hne => hgr.block k hk (fun e => by cases e)⟩, .inr ?_⟩
        · refine ⟨hown.1, ?_⟩
          rcases hown.2 with ⟨_, h0⟩ | ⟨g', cap', cur', e', k2, k3⟩
          · omega
          · exact .inr ⟨g', cap', cur', e', Nat.le_trans hbase k2, k3⟩
        · rcases hown.2 with ⟨_, h0⟩ | ⟨g', cap', cur', e', k2, k3⟩
          · omega
          · exact ⟨g', by rw [e']; rfl, k2, h.1, .inr ⟨g, c, cur, rfl, h2, (hgr.block g hw.lt (fun e => by cases e)).trans h3, h4, h5, h6, h7⟩⟩
/-- append of a step to a way, at an operation of a region that draws. -/
theorem step_append_way {o : Oper} {a : Act} {w : World} {K : Act → World → Prop} {Q : Exit → Act → World → Prop} (s x : Operand)
    (ho : o.op = .call { callee := .builtin .append, args := #[s, x], argTypes := #[123, 123] }) (v y v' : Value) (w' : World) (hs : a.eval s = v) (hx : a.eval x = y)
    (hrun : (Builtin.append_ #[123, 123] o.type #[v, y]).run Tryd.prog w = .ok v' w') (h : K (a.put o.dst v') w') : o.wp Tryd.prog a w K Q := by
  unfold Oper.wp execOp
  simp only [ho, resolve, invoke, builtin, Sem.run_bind, Sem.run_pure, Result.andThen_ok, List.map_toArray, List.map_cons, List.map_nil, hs, hx, hrun]
  exact h
end Go.Proofs.YtolkpjbbfopmnaaDoor
namespace Go.Proofs.YtolkpjbbfopmnaaDoor
open Go.RowKit Go.Shelf
open Tr

/-- All blocks but the map and the way's row are as they were. -/
structure Fr (M : Nat) (row : Option Nat) (w w' : World) : Prop where
  os : w'.os = w.os
  tape : w'.tape = w.tape
  output : w'.output = w.output
  size : w.heap.size ≤ w'.heap.size
  block : ∀ k, k < w.heap.size → k ≠ M → some k ≠ row → w'.heap[k]? = w.heap[k]?
theorem Fr.refl (M : Nat) (row : Option Nat) (w : World) : Fr M row w w := ⟨rfl, rfl, rfl, Nat.le_refl _, fun _ _ _ _ => rfl⟩
theorem Fr.trans {M : Nat} {row : Option Nat} {u v w : World} (h : Fr M row u v) (h' : Fr M row v w) : Fr M row u w :=
  ⟨h'.os.trans h.os, h'.tape.trans h.tape, h'.output.trans h.output, Nat.le_trans h.size h'.size, fun k hk hM hr => (h'.block k (Nat.lt_of_lt_of_le hk h.size) hM hr).trans (h.block k hk hM hr)⟩
theorem Fr.of_below {M : Nat} {row : Option Nat} {w w' : World} (h : Below w.heap.size w w') : Fr M row w w' := ⟨h.os, h.tape, h.output, h.size, fun k hk _ _ => h.block k hk⟩
theorem Fr.of_grown {M : Nat} {row : Option Nat} {w w' : World} (h : w.grownBy w' row) : Fr M row w w' := ⟨h.os, h.tape, h.output, h.size, fun k hk _ hr => h.block k hk hr⟩
/-- A step more in the way: its row is the same, or a new one. -/
theorem Fr.step {M : Nat} {row row' : Option Nat} {u v w : World} (h : Fr M row u v) (h' : Fr M row' v w) (hr : row' = row ∨ ∃ b, row' = some b ∧ u.heap.size ≤ b) : Fr M row u w :=
  ⟨h'.os.trans h.os, h'.tape.trans h.tape, h'.output.trans h.output, Nat.le_trans h.size h'.size, fun k hk hM hk' => (h'.block k (Nat.lt_of_lt_of_le hk h.size) hM (by
    rcases hr with rfl | ⟨b, rfl, hb⟩
    · exact hk'
    · intro e; injection e with e; omega)).trans (h.block k hk hM hk')⟩
theorem Fr.cell {M : Nat} {row : Option Nat} {w w' : World} (h : Fr M row w w') {k i : Nat} (hk : k < w.heap.size) (hM : k ≠ M) (hr : some k ≠ row) : w'.cell? ⟨k, i, none⟩ = w.cell? ⟨k, i, none⟩ := World.cell?_of_block (h.block k hk hM hr)
theorem Fr.rd {M : Nat} {row : Option Nat} {w w' : World} (h : Fr M row w w') {A : Option Addr} {n : Nat} {bs : List UInt8} (hr : Rd w w.heap.size A n bs) (hne : ∀ b o, A = some ⟨b, o, none⟩ → b ≠ M ∧ some b ≠ row) : Rd w' w'.heap.size A n bs := by
  refine ⟨hr.1, fun hn => ?_⟩
  obtain ⟨b, o, e, hb, hc⟩ := hr.2 hn
  exact ⟨b, o, e, Nat.lt_of_lt_of_le hb h.size, fun j u hu => (h.cell hb (hne b o e).1 (hne b o e).2).trans (hc j u hu)⟩

def NVals (ms : List (List UInt8 × Value)) : Prop := ∀ p ∈ ms, ∃ X : Array Value, p.2 = .agg X ∧ X.size = 68 ∧ X.all (·.oneCell') = true
/-- A value is the node of tree s; its bytes lie in blocks from B on. -/
def NodeV (w : World) (B : Nat) (s : T) (v : Value) : Prop :=
  ∃ cs A n c A' n' c', v = .agg cs ∧ Told w B s cs A n c A' n' c'
/-- The sums that are there behind a save of a subtree, in the order in which they came. -/
def skeys (ks : List (List UInt8)) : T → List (List UInt8)
  | .leaf k v => if (T.leaf k v).sum ∈ ks then ks else ks ++ [(T.leaf k v).sum]
  | .node l r => if (T.node l r).sum ∈ ks then ks else skeys (skeys (ks ++ [(T.node l r).sum]) l) r
/-- What a save brings: the sums, and of each new one a node of the subtree, in blocks from B on. -/
def SNew (ms : List (List UInt8 × Value)) (s : T) (ms' : List (List UInt8 × Value)) (B : Nat) (w' : World) : Prop :=
  ms'.map (·.1) = skeys (ms.map (·.1)) s ∧ ∀ p ∈ ms', p ∈ ms ∨ ∃ s' ∈ s.all, p.1 = s'.sum ∧ NodeV w' B s' p.2
theorem look_none_iff (ms : List (List UInt8 × Value)) (h : List UInt8) : MAt.look ms h = none ↔ h ∉ ms.map (·.1) := by
  unfold MAt.look
  rw [Option.map_eq_none_iff, List.find?_eq_none]
  constructor
  · intro hn hm
    obtain ⟨p, hp, rfl⟩ := List.mem_map.1 hm
    exact hn p hp (by simp)
  · intro hn p hp he
    exact hn (List.mem_map.2 ⟨p, hp, by simpa using he⟩)
theorem skeys_there {ks : List (List UInt8)} {s : T} (h : s.sum ∈ ks) : skeys ks s = ks := by
  cases s <;> (unfold skeys; rw [if_pos h])
theorem SNew.there {ms : List (List UInt8 × Value)} {s : T} {B : Nat} {w' : World} {v : Value} (h : MAt.look ms s.sum = some v) : SNew ms s ms B w' :=
  ⟨(skeys_there (Classical.byContradiction fun hn => by rw [(look_none_iff ms s.sum).2 hn] at h; cases h)).symm, fun _ hp => .inl hp⟩
theorem self_all (s : T) : s ∈ s.all := by cases s <;> simp [T.all]
theorem skeys_leaf {ks : List (List UInt8)} {k v : List UInt8} {h : List UInt8} (e : (T.leaf k v).sum = h) (hn : h ∉ ks) : skeys ks (.leaf k v) = ks ++ [h] := by
  unfold skeys
  rw [e]
  exact if_neg hn
theorem skeys_node {ks : List (List UInt8)} {l r : T} {h : List UInt8} (e : (T.node l r).sum = h) (hn : h ∉ ks) : skeys ks (.node l r) = skeys (skeys (ks ++ [h]) l) r := by
  conv => lhs; unfold skeys
  rw [e]
  exact if_neg hn
theorem map_snoc (ms : List (List UInt8 × Value)) (h : List UInt8) (u : Value) : (ms ++ [(h, u)]).map (·.1) = ms.map (·.1) ++ [h] := by rw [List.map_append]; rfl
theorem SNew.leaf {ms : List (List UInt8 × Value)} {k v : List UInt8} {B : Nat} {w' : World} {u : Value} {h : List UInt8} (e : (T.leaf k v).sum = h) (hn : MAt.look ms h = none) (hu : NodeV w' B (.leaf k v) u) : SNew ms (.leaf k v) (ms ++ [(h, u)]) B w' := by
  refine ⟨?_, fun p hp => ?_⟩
  · rw [skeys_leaf e ((look_none_iff ms _).1 hn), map_snoc]
  · rcases List.mem_append.1 hp with hp | hp
    · exact .inl hp
    · obtain rfl := List.mem_singleton.1 hp
      exact .inr ⟨_, self_all _, e.symm, hu⟩
def SavePost (pb M base : Nat) (wv : Value) (n : Nat) (way : List Bool) (s : T) (ms : List (List UInt8 × Value)) (w : World) (e : Ending) (w' : World) : Prop :=
  e = .returned undef ∧ ∃ ms', BAt w' pb M ms' ∧ NVals ms' ∧ (∀ k v, MAt.look ms k = some v → MAt.look ms' k = some v) ∧ (∃ v, MAt.look ms' s.sum = some v ∧ (MAt.look ms s.sum = none → NodeV w' w.heap.size s v)) ∧
    w'.ownsRow base 4 1 wv n (way.map Value.bool) ∧ Fr M wv.ownBlock w w' ∧ SNew ms s ms' w.heap.size w'
theorem look_some {ms : List (List UInt8 × Value)} (h : NVals ms) {k : List UInt8} {v : Value} (hv : MAt.look ms k = some v) : ∃ X : Array Value, v = .agg X ∧ X.size = 68 ∧ X.all (·.oneCell') = true := by
  unfold MAt.look at hv
  obtain ⟨p, hp, rfl⟩ := Option.map_eq_some_iff.1 hv
  exact h p (List.mem_of_find?_eq_some hp)

theorem own_below' {w w' : World} {base size n : Nat} {e : TypeId} {v : Value} {xs : List Value} (h : w.ownsRow base e size v n xs) (hb : Below w.heap.size w w') : w'.ownsRow base e size v n xs :=
  h.kept (row := none) ⟨hb.os, hb.tape, hb.output, hb.size, fun i hi _ => hb.block i hi⟩ (by cases v.ownBlock <;> simp)
theorem told_fr {M : Nat} {row : Option Nat} {w w' : World} {B : Nat} {s : T} {cs : Array Value} {A A' : Option Addr} {n c n' c' : Nat} (h : Told w B s cs A n c A' n' c') (hf : Fr M row w w') (hM : M < B) (hr : ∀ r, row = some r → r < B) : Told w' B s cs A n c A' n' c' :=
  ⟨h.eq, hf.rd h.key (fun b o e => by have := h.knew b o e; exact ⟨by omega, fun e2 => by have := hr b e2.symm; omega⟩), h.knc, h.kle, hf.rd h.val (fun b o e => by have := h.vnew b o e; exact ⟨by omega, fun e2 => by have := hr b e2.symm; omega⟩), h.vnc, h.vle, h.knew.keep (fun b hb hl => hf.block b hl (by omega) (fun e2 => by have := hr b e2.symm; omega)) hf.size, h.vnew.keep (fun b hb hl => hf.block b hl (by omega) (fun e2 => by have := hr b e2.symm; omega)) hf.size⟩
theorem told_at {w : World} {B : Nat} {s : T} {xs : Array Value} {A A' : Option Addr} {n c n' c' g : Nat} {ty : TypeId} (h : Told w B s xs A n c A' n' c') (hw : Whole w g ty xs) :
    w.cell? ⟨g, 2, none⟩ = some (.int .i64 s.h) ∧ w.rangeAt g 4 (s.lsum.map V8) ∧ w.rangeAt g 36 (s.rsum.map V8) := by
  rw [h.eq] at hw
  obtain ⟨_, _, h2, _⟩ := abox hw
  exact ⟨h2, acells_lrange hw, acells_rrange hw (lsum32 _)⟩
theorem told_more {w : World} {B B' : Nat} {s : T} {cs : Array Value} {A A' : Option Addr} {n c n' c' : Nat} (h : Told w B s cs A n c A' n' c') (hB : B' ≤ B) : Told w B' s cs A n c A' n' c' :=
  ⟨h.eq, h.key, h.knc, h.kle, h.val, h.vnc, h.vle, h.knew.less hB, h.vnew.less hB⟩
theorem node_more {w : World} {B B' : Nat} {s : T} {v : Value} (h : NodeV w B s v) (hB : B' ≤ B) : NodeV w B' s v := by
  obtain ⟨cs, A, n, c, A', n', c', e, h⟩ := h
  exact ⟨cs, A, n, c, A', n', c', e, told_more h hB⟩
theorem node_fr {M : Nat} {row : Option Nat} {w w' : World} {B : Nat} {s : T} {v : Value} (h : NodeV w B s v) (hf : Fr M row w w') (hM : M < B) (hr : ∀ r, row = some r → r < B) : NodeV w' B s v := by
  obtain ⟨cs, A, n, c, A', n', c', e, h⟩ := h
  exact ⟨cs, A, n, c, A', n', c', e, told_fr h hf hM hr⟩
theorem SNew.fr {ms : List (List UInt8 × Value)} {s : T} {ms' : List (List UInt8 × Value)} {M B : Nat} {row : Option Nat} {w w' : World} (h : SNew ms s ms' B w) (hf : Fr M row w w') (hM : M < B) (hr : ∀ r, row = some r → r < B) : SNew ms s ms' B w' :=
  ⟨h.1, fun p hp => (h.2 p hp).imp_right fun ⟨s', h1, h2, h3⟩ => ⟨s', h1, h2, node_fr h3 hf hM hr⟩⟩
theorem SNew.less {ms : List (List UInt8 × Value)} {s : T} {ms' : List (List UInt8 × Value)} {B B' : Nat} {w : World} (h : SNew ms s ms' B w) (hB : B' ≤ B) : SNew ms s ms' B' w :=
  ⟨h.1, fun p hp => (h.2 p hp).imp_right fun ⟨s', h1, h2, h3⟩ => ⟨s', h1, h2, node_more h3 hB⟩⟩
theorem SNew.node {ms ms7 ms8 : List (List UInt8 × Value)} {l r : T} {B B7 B8 : Nat} {w' : World} {u : Value} {h : List UInt8} (e : (T.node l r).sum = h) (hn : MAt.look ms h = none) (hu : NodeV w' B (.node l r) u) (h7 : SNew (ms ++ [(h, u)]) l ms7 B7 w') (h8 : SNew ms7 r ms8 B8 w') (hB7 : B ≤ B7) (hB8 : B ≤ B8) : SNew ms (.node l r) ms8 B w' := by
  refine ⟨?_, fun p hp => ?_⟩
  · rw [h8.1, h7.1, skeys_node e ((look_none_iff ms _).1 hn), map_snoc]
  · rcases h8.2 p hp with hp | ⟨s', h1, h2, h3⟩
    · rcases h7.2 p hp with hp | ⟨s', h1, h2, h3⟩
      · rcases List.mem_append.1 hp with hp | hp
        · exact .inl hp
        · obtain rfl := List.mem_singleton.1 hp
          exact .inr ⟨_, self_all _, e.symm, hu⟩
      · exact .inr ⟨s', List.mem_cons_of_mem _ (List.mem_append_left _ h1), h2, node_more h3 hB7⟩
    · exact .inr ⟨s', List.mem_cons_of_mem _ (List.mem_append_right _ h1), h2, node_more h3 hB8⟩
theorem row_fr {w w' : World} {base n : Nat} {v : Value} {xs : List Value} (h : w.ownsRow base 4 1 v n xs) (hk : ∀ g, v.ownBlock = some g → w'.heap[g]? = w.heap[g]?) : w'.ownsRow base 4 1 v n xs := by
  refine ⟨h.1, ?_⟩
  rcases h.2 with e | ⟨g, cap, cur, e, h2, h3, h4, h5, h6, h7⟩
  · exact .inl e
  · exact .inr ⟨g, cap, cur, e, h2, (hk g (by rw [e]; rfl)).trans h3, h4, h5, h6, h7⟩
theorem child_back {M base n c c7 : Nat} {W W7 : Option Addr} {xs : List Value} {x : Value} {w6 u7 x7 y7 : World} (hb7 : Below w6.heap.size w6 u7) (hgr : u7.grownBy x7 (Value.slice W n c).ownBlock)
    (hat : Value.slice W7 (n + 1) c7 = .slice W (n + 1) c ∨ ∃ b, (Value.slice W7 (n + 1) c7).ownBlock = some b ∧ u7.heap.size ≤ b ∧ x7.ownsRow base 4 1 (.slice W n c) n xs)
    (hfr : Fr M (Value.slice W7 (n + 1) c7).ownBlock x7 y7) (hown : y7.ownsRow base 4 1 (.slice W7 (n + 1) c7) (n + 1) (xs ++ [x])) (hM : M < base)
    (hr : ∀ r, (Value.slice W n c).ownBlock = some r → base ≤ r ∧ r < w6.heap.size) : Fr M (Value.slice W n c).ownBlock w6 y7 ∧ y7.ownsRow base 4 1 (.slice W n c) n xs := by
  have h1 : Fr M (Value.slice W n c).ownBlock w6 x7 := (Fr.of_below hb7).trans (Fr.of_grown hgr)
  have hs := hb7.size
  rcases hat with e | ⟨b, e, hb, hrow⟩
  · injection e with e1 _ e3
    subst e1 e3
    exact ⟨h1.step hfr (.inl (by cases W7 <;> rfl)), own_front hown⟩
  · refine ⟨h1.step hfr (.inr ⟨b, e, Nat.le_trans hs hb⟩), row_fr hrow (fun g hg => ?_)⟩
    have := hr g hg
    exact hfr.block g (Nat.lt_of_lt_of_le this.2 h1.size) (by omega) (by rw [e]; intro e2; injection e2 with e2; omega)
theorem tin_fr {M base g : Nat} {row : Option Nat} {w w' : World} {o : Option T} (h : TIn (fun b => b ≠ M) w base o g) (hf : Fr M row w w') (hb : base ≤ w.heap.size) (hr : ∀ r, row = some r → base ≤ r) : TIn (fun b => b ≠ M) w' base o g :=
  h.keepG (fun b hlt hG => hf.block b (Nat.lt_of_lt_of_le hlt hb) hG (fun e => by have := hr b e.symm; omega))
theorem range_fr {M g o : Nat} {row : Option Nat} {w w' : World} {vs : List Value} (h : w.rangeAt g o vs) (hf : Fr M row w w') (hg : g < w.heap.size) (hM : g ≠ M) (hr : some g ≠ row) : w'.rangeAt g o vs :=
  fun j v hv => (hf.cell hg hM hr).trans (h j v hv)
theorem bat_grown {pb M : Nat} {row : Option Nat} {w w' : World} {ms : List (List UInt8 × Value)} (h : BAt w pb M ms) (hg : w.grownBy w' row) (h1 : some pb ≠ row) (h2 : some M ≠ row) : BAt w' pb M ms :=
  ⟨(hg.block pb h.1.lt h1).trans h.1, h.2.1.block (hg.block M h.2.1.lt h2), h.2.2⟩
def SaveAt (pb M base g0t : Nat) (t s : T) : Prop := ∀ (way : List Bool) (W : Option Addr) (n c : Nat) (ms : List (List UInt8 × Value)) (w : World),
    BAt w pb M ms → NVals ms → base ≤ w.heap.size → TIn (fun b => b ≠ M) w base (some t) g0t → oat (some t) way = some s → w.ownsRow base 4 1 (.slice W n c) n (way.map Value.bool) →
    Calls Tryd.prog 48 #[ptr (some pb), .agg (Sh.bcells s.sum), ptr (some g0t), .slice W n c] w (SavePost pb M base (.slice W n c) n way s ms w)
theorem look_case {M : Nat} {ms : List (List UInt8 × Value)} (hv : NVals ms) (h : List UInt8) (hl : h.length = 32) : ∃ (X : Array Value) (is : Bool), X.size = 68 ∧ X.all (·.oneCell') = true ∧
    (∀ u, MAt u M ms → (Instr.lookup 94 (.map (some M)) (.agg (Sh.bcells h)) true).run Tryd.prog u = .ok (.tuple #[.agg X, .bool is]) u) ∧ (is = true → MAt.look ms h = some (.agg X)) ∧ (is = false → MAt.look ms h = none) := by
  cases hk : MAt.look ms h with
  | none => exact ⟨z64, false, z64_size, z64_one, fun u hu => lookup_absent hu h hl hk (zero64 u), fun e => (by cases e), fun _ => rfl⟩
  | some v =>
    obtain ⟨X, rfl, h1, h2⟩ := look_some hv hk
    exact ⟨X, true, h1, h2, fun u hu => lookup_there hu h hl hk, fun _ => rfl, fun e => (by cases e)⟩

set_option maxRecDepth 100000 in
set_option maxHeartbeats 600000 in
theorem save_core (pb M base g0t : Nat) (t : T) (hpbb : pb < base) (hMb : M < base) (htn : t.n ≤ 1000) (s : T) (hIH : ∀ l r, s = T.node l r → SaveAt pb M base g0t t l ∧ SaveAt pb M base g0t t r) : SaveAt pb M base g0t t s := by
  intro way W n c ms w hB hV hbase hT hoat hrow
  have hdeep := oat_deep t way s hoat
  have hnw : way.length = n := by have := hrow.1; simpa using this
  obtain ⟨h, hh⟩ : ∃ h, s.sum = h := ⟨_, rfl⟩
  have hl : h.length = 32 := by rw [← hh]; exact sum32 s
  obtain ⟨X, is, hX, hone, hrun, hyes, hno⟩ := look_case (M := M) hV h hl
  have hb := (Below.refl w.heap.size w).alloc (Nat.le_refl _) (.cells (Sh.bcells h) 29)
  have hw := Whole.made w 29 (Sh.bcells h)
  have cb : (w.alloc (.cells (Sh.bcells h) 29)).cell? ⟨pb, 0, none⟩ = some (.map (some M)) := (hb.cell (p := ⟨pb, 0, none⟩) hB.1.lt).trans (hB.1.at_ (i := 0) rfl)
  have hpb : pb < (w.alloc (.cells (Sh.bcells h) 29)).heap.size := Nat.lt_of_lt_of_le hB.1.lt hb.size
  have hg0 : w.heap.size < (w.alloc (.cells (Sh.bcells h) 29)).heap.size := by simp
  have HRG : Hid ((w.alloc (.cells (Sh.bcells h) 29)).rangeAt w.heap.size 0 (h.map V8)) := Lib.hid hw.range
  have HRUN := Lib.hid (fun (u : World) (hbu : Below (w.alloc (.cells (Sh.bcells h) 29)).heap.size (w.alloc (.cells (Sh.bcells h) 29)) u) => hrun u ((hB.below hb).below hbu).2.1)
  have HI : Hid ((Tryd.prog.info? 29).map (·.size) = some (h.map V8).length) := Lib.hid (by rw [List.length_map, hl]; exact info49)
  have HB := Lib.hid hb
  have HBB := Lib.hid (And.intro hB hV)
  have HT := Lib.hid (And.intro hT (And.intro hoat hrow))
  have HYN := Lib.hid (And.intro hyes hno)
  have HIH := Lib.hid hIH
  have HH := Lib.hid (And.intro hh hl)
  rw [hh]
  clear hb hw hrun hB hV hT hoat hrow hyes hno hIH hh hl
  change Hid (∀ (u : World), Below (w.alloc (.cells (Sh.bcells h) 29)).heap.size (w.alloc (.cells (Sh.bcells h) 29)) u → (Instr.lookup 94 (.map (some M)) (.agg (h.map V8).toArray) true).run Tryd.prog u = .ok (.tuple #[.agg X, .bool is]) u) at HRUN
  obtain ⟨g0, hgg⟩ : ∃ g, w.heap.size = g := ⟨_, rfl⟩
  rw [hgg] at HRG hg0 HB hbase
  have HG := Lib.hid hgg
  rw [ptr_some, ptr_some]
  go_enter Tryd.func48, Tryd.ntmps48
  go_upto_region 1 with (fail)
  generalize w.alloc (.cells (Sh.bcells h) 29) = w1 at *
  clear hgg
  have hS0 : w1.drew.cell? ⟨pb, 0, none⟩ = some (.map (some M)) ∧ w1.drew.rangeAt g0 0 (h.map V8) ∧ (Instr.lookup 94 (.map (some M)) (.agg (h.map V8).toArray) true).run Tryd.prog w1.drew = .ok (.tuple #[.agg X, .bool is]) w1.drew := ⟨cb, HRG.out, HRUN.out w1.drew (Below.refl _ _).drew⟩
  refine wp_region_held_drew (S := fun u => u.cell? ⟨pb, 0, none⟩ = some (.map (some M)) ∧ u.rangeAt g0 0 (h.map V8) ∧ (Instr.lookup 94 (.map (some M)) (.agg (h.map V8).toArray) true).run Tryd.prog u = .ok (.tuple #[.agg X, .bool is]) u) (by kernel_rfl) hS0 (fun hHeld => ?_)
  refine wpAnyH_take (i := 0) (oi := { dst := some 13, op := Op.move (Operand.tmp 0), type := 50, pos := "nodes.go:30", after := #[], guard := none }) (v := ?_) rfl (by kernel_rfl) (by kernel_rfl) (by kernel_rfl) (fun _ _ _ h => h) (Or.inl ⟨by rfl, ?_⟩) (by assumption) ?_
  rotate_left
  · first | (intro w hSw; (try dsimp only at hSw); go_simp; done) | (intro w hSw; (try dsimp only at hSw); go_simp; with_reducible rfl)
  simp only [Act.put, List.setIfInBounds_toArray, List.set_cons_zero, List.set_cons_succ]
  refine wpAnyH_take (i := 1) (oi := { dst := some 14, op := Op.nilCheck (Operand.tmp 13), type := 0, pos := "nodes.go:30", after := #[{ on := 0, ground := Ground.data }], guard := none }) (v := ?_) rfl (by kernel_rfl) (by kernel_rfl) (by kernel_rfl) (fun _ _ _ h => h) (Or.inl ⟨by rfl, ?_⟩) (by assumption) ?_
  rotate_left
  · first | (intro w hSw; (try dsimp only at hSw); go_simp; done) | (intro w hSw; (try dsimp only at hSw); go_simp; with_reducible rfl)
  simp only [Act.put, List.setIfInBounds_toArray, List.set_cons_zero, List.set_cons_succ]
  refine wpAnyH_take (i := 2) (oi := { dst := some 15, op := Op.fieldAddr 96 (Operand.tmp 14) 0, type := 0, pos := "nodes.go:30", after := #[{ on := 1, ground := Ground.data }], guard := none }) (v := ?_) rfl (by kernel_rfl) (by kernel_rfl) (by kernel_rfl) (fun _ _ _ h => h) (Or.inl ⟨by rfl, ?_⟩) (by assumption) ?_
  rotate_left
  · first | (intro w hSw; (try dsimp only at hSw); go_simp; done) | (intro w hSw; (try dsimp only at hSw); go_simp; with_reducible rfl)
  simp only [Act.put, List.setIfInBounds_toArray, List.set_cons_zero, List.set_cons_succ]
  refine wpAnyH_take (i := 3) (oi := { dst := some 16, op := Op.load 94 (Operand.tmp 15), type := 94, pos := "nodes.go:30", after := #[{ on := 2, ground := Ground.data }], guard := none }) (v := ?_) rfl (by kernel_rfl) (by kernel_rfl) (by kernel_rfl) (fun _ _ _ h => h) (Or.inl ⟨by rfl, ?_⟩) (by assumption) ?_
  rotate_left
  · first | (intro w hSw; (try dsimp only at hSw); go_simp; done) | (intro w hSw; (try dsimp only at hSw); go_simp; with_reducible rfl)
  simp only [Act.put, List.setIfInBounds_toArray, List.set_cons_zero, List.set_cons_succ]
  refine wpAnyH_take (i := 4) (oi := { dst := some 17, op := Op.load 29 (Operand.tmp 5), type := 29, pos := "nodes.go:30", after := #[], guard := none }) (v := .agg (h.map V8).toArray) rfl (by kernel_rfl) (by kernel_rfl) (by kernel_rfl) (fun _ _ _ h => h) (yieldsIf_load_mid (by rfl) 29 (.tmp 5) rfl g0 0 rfl (h.map V8) _ (fun _ h => h.2.1) Tryd.underlying29 rfl HI.out) (by assumption) ?_
  simp only [Act.put, List.setIfInBounds_toArray, List.set_cons_zero, List.set_cons_succ]
  refine wpAnyH_take (i := 5) (oi := { dst := some 18, op := Op.lookup 94 (Operand.tmp 16) (Operand.tmp 17) true, type := 74, pos := "nodes.go:30", after := #[{ on := 3, ground := Ground.data }, { on := 4, ground := Ground.data }], guard := none }) (v := ?_) rfl (by kernel_rfl) (by kernel_rfl) (by kernel_rfl) (fun _ _ _ h => h) (Or.inl ⟨by rfl, ?_⟩) (by assumption) ?_
  rotate_left
  · first | (intro w hSw; (try dsimp only at hSw); go_simp; done) | (intro w hSw; (try dsimp only at hSw); go_simp; with_reducible rfl)
  simp only [Act.put, List.setIfInBounds_toArray, List.set_cons_zero, List.set_cons_succ]
  refine wpAnyH_take (i := 6) (oi := { dst := some 12, op := Op.move (Operand.tmp 18), type := 74, pos := "nodes.go:30", after := #[{ on := 5, ground := Ground.data }], guard := none }) (v := ?_) rfl (by kernel_rfl) (by kernel_rfl) (by kernel_rfl) (fun _ _ _ h => h) (Or.inl ⟨by rfl, ?_⟩) (by assumption) ?_
  rotate_left
  · first | (intro w hSw; (try dsimp only at hSw); go_simp; done) | (intro w hSw; (try dsimp only at hSw); go_simp; with_reducible rfl)
  simp only [Act.put, List.setIfInBounds_toArray, List.set_cons_zero, List.set_cons_succ]
  refine wpAnyH_take (i := 7) (oi := { dst := some 19, op := Op.extract (Operand.tmp 12) 0, type := 47, pos := "nodes.go:30", after := #[{ on := 6, ground := Ground.data }], guard := none }) (v := ?_) rfl (by kernel_rfl) (by kernel_rfl) (by kernel_rfl) (fun _ _ _ h => h) (Or.inl ⟨by rfl, ?_⟩) (by assumption) ?_
  rotate_left
  · first | (intro w hSw; (try dsimp only at hSw); go_simp; done) | (intro w hSw; (try dsimp only at hSw); go_simp; with_reducible rfl)
  simp only [Act.put, List.setIfInBounds_toArray, List.set_cons_zero, List.set_cons_succ]
  refine wpAnyH_take (i := 8) (oi := { dst := some 20, op := Op.extract (Operand.tmp 12) 1, type := 4, pos := "nodes.go:30", after := #[{ on := 6, ground := Ground.data }, { on := 10, ground := Ground.gcOnly Departure.lateStores }], guard := none }) (v := ?_) rfl (by kernel_rfl) (by kernel_rfl) (by kernel_rfl) (fun _ _ _ h => h) (Or.inl ⟨by rfl, ?_⟩) (by assumption) ?_
  rotate_left
  · first | (intro w hSw; (try dsimp only at hSw); go_simp; done) | (intro w hSw; (try dsimp only at hSw); go_simp; with_reducible rfl)
  simp only [Act.put, List.setIfInBounds_toArray, List.set_cons_zero, List.set_cons_succ]
  have hz64 := zero64
  refine wpAnyH_ready (rs := [9]) (by kernel_rfl) (by simp) ?_
  refine AllReadyH.cons (o := { dst := some 8, op := Op.alloc 47, type := 0, pos := "nodes.go:30", after := #[], guard := none }) rfl (fun K hK => ?_) AllReadyH.nil
  go_simp
  have hb2 : Below w1.heap.size w1 (w1.alloc (.cells z64 47)).drew := ((Below.refl _ _).alloc (Nat.le_refl _) _).drew
  have hw2 : Whole (w1.alloc (.cells z64 47)).drew w1.heap.size 47 z64 := Whole.made w1 47 z64
  refine hK.out _ _ ⟨(hb2.cell (p := ⟨pb, 0, none⟩) hpb).trans cb, range_keep HRG.out hb2 hg0, HRUN.out _ hb2⟩ (fun _ => ?_)
  clear hK K hHeld hS0 hz64
  refine wpAnyH_ready (rs := [10]) (by kernel_rfl) (by simp) ?_
  refine AllReadyH.cons (o := { dst := none, op := Op.store 47 (Operand.tmp 8) (Operand.tmp 19), type := 0, pos := "nodes.go:30", after := #[{ on := 9, ground := Ground.data }, { on := 7, ground := Ground.data }, { on := 0, ground := Ground.phase }, { on := 1, ground := Ground.phase }, { on := 2, ground := Ground.phase }, { on := 3, ground := Ground.phase }, { on := 4, ground := Ground.phase }, { on := 5, ground := Ground.phase }, { on := 6, ground := Ground.phase }, { on := 7, ground := Ground.phase }, { on := 8, ground := Ground.textOnly Departure.lateStores }, { on := 9, ground := Ground.phase }], guard := none }) rfl (fun K hK => ?_) AllReadyH.nil
  refine Eq.mpr (if_pos (by rfl)) ?_
  refine wp_store_mid 47 (.tmp 8) (.tmp 19) rfl w1.heap.size 0 X rfl rfl ?_ ?_ hone ?_
  · rw [hX]; exact hw2.there_
  · rw [hX]; exact info64
  have hw3 := hw2.setAll (vs := X) (by rw [hX]; rfl)
  have hb3 : Below w1.heap.size w1 ((w1.alloc (.cells z64 47)).drew.setCells w1.heap.size 0 X.toList) := below_setCells w1 w1.heap.size _ 0 hb2 (Nat.le_refl _)
  refine hK.out _ _ ⟨(hb3.cell (p := ⟨pb, 0, none⟩) hpb).trans cb, range_keep HRG.out hb3 hg0, HRUN.out _ hb3⟩ (fun _ => ?_)
  clear hK K hb2 hw2
  have HW3 : Hid (Whole ((w1.alloc (.cells z64 47)).drew.setCells w1.heap.size 0 X.toList) w1.heap.size 47 X) := Lib.hid hw3
  have HB3 := Lib.hid hb3
  clear hw3 hb3
  generalize (w1.alloc (.cells z64 47)).drew.setCells w1.heap.size 0 X.toList = w3 at *
  refine wpAnyH_take (i := 11) (oi := { dst := some 9, op := Op.assign (Operand.tmp 20), type := 4, pos := "nodes.go:30", after := #[{ on := 8, ground := Ground.data }, { on := 10, ground := Ground.chain }, { on := 0, ground := Ground.phase }, { on := 1, ground := Ground.phase }, { on := 2, ground := Ground.phase }, { on := 3, ground := Ground.phase }, { on := 4, ground := Ground.phase }, { on := 5, ground := Ground.phase }, { on := 6, ground := Ground.phase }, { on := 7, ground := Ground.phase }, { on := 8, ground := Ground.phase }, { on := 9, ground := Ground.phase }, { on := 10, ground := Ground.phase }], guard := none }) (v := ?_) rfl (by kernel_rfl) (by kernel_rfl) (by kernel_rfl) (fun _ _ _ h => h) (Or.inl ⟨by rfl, ?_⟩) (by assumption) ?_
  rotate_left
  · first | (intro w hSw; (try dsimp only at hSw); go_simp; done) | (intro w hSw; (try dsimp only at hSw); go_simp; with_reducible rfl)
  simp only [Act.put, List.setIfInBounds_toArray, List.set_cons_zero, List.set_cons_succ]
  refine wpAnyH_done (by kernel_rfl) ?_ _
  have hb03 := HB.out.trans (HB3.out.mono (Nat.le_of_lt hg0))
  cases is with
  | true =>
    have hpost : SavePost pb M base (.slice W n c) n way s ms w (.returned undef) w3 := by
      have hbx : Below w.heap.size w w3 := by rw [HG.out]; exact hb03
      refine ⟨rfl, ms, HBB.out.1.below hbx, HBB.out.2, fun _ _ h => h, ⟨.agg X, ?_, fun h => ?_⟩, own_below' HT.out.2.2 hbx, Fr.of_below hbx, SNew.there (by rw [HH.out.1]; exact HYN.out.1 rfl)⟩
      · rw [HH.out.1]; exact HYN.out.1 rfl
      · rw [HH.out.1, HYN.out.1 rfl] at h; cases h
    have HPOST := Lib.hid hpost
    clear hpost hb03 HRUN HRG HW3 HB3 cb
    go_wp2_with fail
    refine bodyPost_ret (results_none rfl _ _ _) rfl ?_
    exact HPOST.out
  | false =>
    have hlook := HYN.out.2 rfl
    have hbx : Below w.heap.size w w3 := by rw [HG.out]; exact hb03
    have hw3s : g0 ≤ w3.heap.size := by have := hb03.size; rw [HG.out] at this; exact this
    have hT3 := (HT.out.1.below hbx (by rw [HG.out]; exact hbase)).more (B' := w3.heap.size) (by omega)
    have hrow3 := own_below' HT.out.2.2 hbx
    have HWY := Lib.hid (way_any (some (some t)) (some g0t) W n c way w3 ⟨g0t, rfl, hT3⟩ (RdV.of_own hrow3) (by omega))
    rw [ptr_some] at HWY
    have hcb3 := (HB3.out.cell (p := ⟨pb, 0, none⟩) hpb).trans cb
    have hrg3 := range_keep HRG.out HB3.out hg0
    have HB03 := Lib.hid hbx
    have H3 := Lib.hid (And.intro hcb3 hrg3)
    have hpb3 : pb < w3.heap.size := by omega
    have hg03 : g0 < w3.heap.size := by have := HB3.out.size; omega
    clear HRUN HRG HW3 HB3 cb hb03 hT3 hrow3 hcb3 hrg3 hbx hpb hg0
    go_wp2_with fail
    refine HWY.out.mono ?_
    rintro e w4 hpost
    rcases hpost with ⟨hn0, _⟩ | ⟨s', xs, A, na, ca, A', na', ca', hs', rfl, hTo, hb4⟩
    · exact absurd hn0 (by rw [show oat (topOf (some (some t))) way = some s from HT.out.2.1]; intro h; cases h)
    obtain rfl : s = s' := by rw [show oat (topOf (some (some t))) way = some s from HT.out.2.1] at hs'; injection hs'
    have hcs : xs.size = 68 := by rw [hTo.eq, List.size_toArray, acells_len _ _ _ _ _ _ (lsum32 _) (rsum32 _)]
    have honx : xs.all (·.oneCell') = true := by rw [hTo.eq]; exact Tl.acells_one ..
    have HTo := Lib.hid hTo
    clear HWY hTo hs'
    simp only []
    have hz64 := zero64
    iterate 13 go_step
    clear hz64
    have hwm := Whole.made w4 47 z64
    refine wpList_store_mid rfl 47 (.tmp 10) (.tmp 26) rfl w4.heap.size 0 xs rfl rfl ?_ ?_ honx ?_
    · rw [hcs]; exact hwm.there_
    · rw [hcs]; exact info64
    have hws := hwm.setAll (vs := xs) (by rw [hcs]; rfl)
    have hbs : Below w4.heap.size w4 ((w4.alloc (.cells z64 47)).setCells w4.heap.size 0 xs.toList) := below_setCells w4 w4.heap.size _ 0 ((Below.refl _ _).alloc (Nat.le_refl _) _) (Nat.le_refl _)
    generalize (w4.alloc (.cells z64 47)).setCells w4.heap.size 0 xs.toList = w5 at *
    have hb35 : Below w3.heap.size w3 w5 := hb4.trans (hbs.mono hb4.size)
    have hTo5 := HTo.out.below hbs
    obtain ⟨g5, hg5⟩ : ∃ g, w4.heap.size = g := ⟨_, rfl⟩
    rw [hg5] at hws ⊢
    have hg5s : g5 < w5.heap.size := hws.lt
    have hg35 : w3.heap.size ≤ g5 := by rw [← hg5]; exact hb4.size
    have c5 := (hb35.cell (p := ⟨pb, 0, none⟩) hpb3).trans H3.out.1
    have r5 := range_keep H3.out.2 hb35 hg03
    have x5 := hws.range
    have HB5 := Lib.hid (HB03.out.trans (hb35.mono (by rw [HG.out]; exact hw3s)))
    have HTo5 := Lib.hid hTo5
    have HW5 := Lib.hid hws
    have hm5 : MAt w5 M ms := (HBB.out.1.below HB5.out).2.1
    have HI35 : Hid ((Tryd.prog.info? 47).map (·.size) = some xs.toList.length) := Lib.hid (by rw [Array.length_toList, hcs]; exact info64)
    have hs35 : w3.heap.size ≤ w5.heap.size := hb35.size
    clear hwm hbs hb4 hb35 hTo5 hws HTo H3 hg5
    go_upto_region 5 with (fail)
    have hS0 : w5.drew.cell? ⟨pb, 0, none⟩ = some (.map (some M)) ∧ w5.drew.rangeAt g0 0 (h.map V8) ∧ w5.drew.rangeAt g5 0 xs.toList := ⟨c5, r5, x5⟩
    refine wp_region_held_drew (S := fun u => u.cell? ⟨pb, 0, none⟩ = some (.map (some M)) ∧ u.rangeAt g0 0 (h.map V8) ∧ u.rangeAt g5 0 xs.toList) (by kernel_rfl) hS0 (fun hHeld => ?_)
    refine wpAnyH_take (i := 0) (oi := { dst := some 30, op := Op.move (Operand.tmp 0), type := 50, pos := "nodes.go:37", after := #[], guard := none }) (v := ?_) rfl (by kernel_rfl) (by kernel_rfl) (by kernel_rfl) (fun _ _ _ h => h) (Or.inl ⟨by rfl, ?_⟩) (by assumption) ?_
    rotate_left
    · first | (intro w hSw; (try dsimp only at hSw); go_simp; done) | (intro w hSw; (try dsimp only at hSw); go_simp; with_reducible rfl)
    simp only [Act.put, List.setIfInBounds_toArray, List.set_cons_zero, List.set_cons_succ]
    refine wpAnyH_take (i := 1) (oi := { dst := some 31, op := Op.nilCheck (Operand.tmp 30), type := 0, pos := "nodes.go:37", after := #[{ on := 0, ground := Ground.data }], guard := none }) (v := ?_) rfl (by kernel_rfl) (by kernel_rfl) (by kernel_rfl) (fun _ _ _ h => h) (Or.inl ⟨by rfl, ?_⟩) (by assumption) ?_
    rotate_left
    · first | (intro w hSw; (try dsimp only at hSw); go_simp; done) | (intro w hSw; (try dsimp only at hSw); go_simp; with_reducible rfl)
    simp only [Act.put, List.setIfInBounds_toArray, List.set_cons_zero, List.set_cons_succ]
    refine wpAnyH_take (i := 2) (oi := { dst := some 32, op := Op.fieldAddr 96 (Operand.tmp 31) 0, type := 0, pos := "nodes.go:37", after := #[{ on := 1, ground := Ground.data }], guard := none }) (v := ?_) rfl (by kernel_rfl) (by kernel_rfl) (by kernel_rfl) (fun _ _ _ h => h) (Or.inl ⟨by rfl, ?_⟩) (by assumption) ?_
    rotate_left
    · first | (intro w hSw; (try dsimp only at hSw); go_simp; done) | (intro w hSw; (try dsimp only at hSw); go_simp; with_reducible rfl)
    simp only [Act.put, List.setIfInBounds_toArray, List.set_cons_zero, List.set_cons_succ]
    refine wpAnyH_take (i := 3) (oi := { dst := some 33, op := Op.load 94 (Operand.tmp 32), type := 94, pos := "nodes.go:37", after := #[{ on := 2, ground := Ground.data }], guard := none }) (v := ?_) rfl (by kernel_rfl) (by kernel_rfl) (by kernel_rfl) (fun _ _ _ h => h) (Or.inl ⟨by rfl, ?_⟩) (by assumption) ?_
    rotate_left
    · first | (intro w hSw; (try dsimp only at hSw); go_simp; done) | (intro w hSw; (try dsimp only at hSw); go_simp; with_reducible rfl)
    simp only [Act.put, List.setIfInBounds_toArray, List.set_cons_zero, List.set_cons_succ]
    refine wpAnyH_take (i := 4) (oi := { dst := some 34, op := Op.load 29 (Operand.tmp 5), type := 29, pos := "nodes.go:37", after := #[], guard := none }) (v := .agg (h.map V8).toArray) rfl (by kernel_rfl) (by kernel_rfl) (by kernel_rfl) (fun _ _ _ h => h) (yieldsIf_load_mid (by rfl) 29 (.tmp 5) rfl g0 0 rfl (h.map V8) _ (fun _ h => h.2.1) Tryd.underlying29 rfl HI.out) (by assumption) ?_
    simp only [Act.put, List.setIfInBounds_toArray, List.set_cons_zero, List.set_cons_succ]
    refine wpAnyH_take (i := 5) (oi := { dst := some 35, op := Op.load 47 (Operand.tmp 10), type := 47, pos := "nodes.go:37", after := #[], guard := none }) (v := .agg xs) rfl (by kernel_rfl) (by kernel_rfl) (by kernel_rfl) (fun _ _ _ h => h) (yieldsIf_load_mid (by rfl) 47 (.tmp 10) rfl g5 0 rfl xs.toList _ (fun _ h => h.2.2) Tryd.underlying47 rfl HI35.out) (by assumption) ?_
    simp only [Act.put, List.setIfInBounds_toArray, List.set_cons_zero, List.set_cons_succ]
    refine wpAnyH_ready (rs := [6]) (by kernel_rfl) (by simp) ?_
    refine AllReadyH.cons (o := { dst := none, op := Op.mapUpdate 94 (Operand.tmp 33) (Operand.tmp 34) (Operand.tmp 35), type := 0, pos := "nodes.go:37", after := #[{ on := 3, ground := Ground.data }, { on := 4, ground := Ground.data }, { on := 5, ground := Ground.data }, { on := 0, ground := Ground.phase }, { on := 1, ground := Ground.phase }, { on := 2, ground := Ground.phase }, { on := 3, ground := Ground.phase }, { on := 4, ground := Ground.phase }, { on := 5, ground := Ground.phase }], guard := none }) rfl (fun K hK => ?_) AllReadyH.nil
    obtain ⟨w6, hrun6, hM6, hk6, hz6, ho6, ht6, hu6⟩ := update_new (w := w5.drew) (show MAt w5.drew M ms from hm5) h HH.out.2 hlook (.agg xs)
    refine Eq.mpr (if_pos (by rfl)) ?_
    have hrun7 : (Instr.mapUpdate 94 (.map (some M)) (.agg (h.map V8).toArray) (.agg xs)).run Tryd.prog w5.drew = .ok () w6 := hrun6
    have hgM : g0 ≠ M := by omega
    have hpM : pb ≠ M := HBB.out.1.2.2
    have hg5M : g5 ≠ M := by omega
    have hrow' : ∀ r, (Value.slice W n c).ownBlock = some r → base ≤ r ∧ r < g0 := fun r hr => by have := HT.out.2.2.lt r hr; have := HG.out; omega
    have hfr6 : Fr M (Value.slice W n c).ownBlock w5 w6 := ⟨ho6, ht6, hu6, by rw [hz6]; exact Nat.le_refl _, fun k hk hM _ => hk6 k hM⟩
    have hS6 : w6.cell? ⟨pb, 0, none⟩ = some (.map (some M)) ∧ w6.rangeAt g0 0 (h.map V8) ∧ w6.rangeAt g5 0 xs.toList :=
      ⟨(World.cell?_of_block (hk6 pb hpM)).trans c5, fun j v hv => (World.cell?_of_block (hk6 g0 hgM)).trans (r5 j v hv), fun j v hv => (World.cell?_of_block (hk6 g5 hg5M)).trans (x5 j v hv)⟩
    unfold Oper.wp execOp
    go_simp
    refine hK.out _ _ hS6 (fun _ => ?_)
    clear hK K hHeld hS0 hrun6 hrun7
    refine wpAnyH_done (by kernel_rfl) ?_ _
    have hms1 : ∀ k v, MAt.look ms k = some v → MAt.look (ms ++ [(h, Value.agg xs)]) k = some v := fun k v hv => by
      unfold MAt.look at hv ⊢
      obtain ⟨p, hp, rfl⟩ := Option.map_eq_some_iff.1 hv
      rw [List.find?_append, hp]
      rfl
    have hms2 : MAt.look (ms ++ [(h, Value.agg xs)]) h = some (.agg xs) := by
      have h1 : ms.find? (fun p => p.1 == h) = none := by
        unfold MAt.look at hlook
        exact Option.map_eq_none_iff.1 hlook
      unfold MAt.look
      rw [List.find?_append, h1]
      simp
    have hnv1 : NVals (ms ++ [(h, Value.agg xs)]) := by
      intro p hp
      simp only [List.mem_append, List.mem_singleton] at hp
      rcases hp with hp | rfl
      · exact HBB.out.2 p hp
      · exact ⟨xs, rfl, hcs, honx⟩
    have hf5 : Fr M (Value.slice W n c).ownBlock w w5 := Fr.of_below HB5.out
    have hf6 := hf5.trans hfr6
    have hrow6 : w6.ownsRow base 4 1 (.slice W n c) n (way.map Value.bool) := row_fr (own_below' HT.out.2.2 HB5.out) (fun g e => hk6 g (by have := (hrow' g e).1; omega))
    have hbat6 : BAt w6 pb M (ms ++ [(h, Value.agg xs)]) := ⟨(hk6 pb hpM).trans (HBB.out.1.below HB5.out).1, hM6, hpM⟩
    have htold6 := told_fr HTo5.out hfr6 (by omega) (fun r hr => by have := (hrow' r hr).2; omega)
    have hk5 : ∀ k, k ≠ M → w6.heap[k]? = w5.heap[k]? := hk6
    have hT5 : TIn (fun b => b ≠ M) w5 base (some t) g0t := HT.out.1.below HB5.out (by rw [HG.out]; exact hbase)
    have hT6 : TIn (fun b => b ≠ M) w6 base (some t) g0t := hT5.keepG (fun b _ hb => hk5 b hb)
    clear hT5 hk5
    have hW6 : Whole w6 g5 47 xs := (hk6 g5 hg5M).trans HW5.out
    obtain ⟨hp6, l6, r6⟩ := told_at htold6 hW6
    have H6 := Lib.hid (And.intro hms1 (And.intro hms2 (And.intro hnv1 (And.intro hf6 (And.intro hrow6 (And.intro hbat6 (And.intro htold6 hT6)))))))
    have hz6s : w6.heap.size = w5.heap.size := hz6
    clear hms1 hms2 hnv1 hf5 hf6 hrow6 hbat6 htold6 hT6 hW6 c5 r5 x5 hm5 hS6 hfr6 hk6 hM6 ho6 ht6 hu6 hz6 HTo5 HW5 HB5
    cases s with
    | leaf lk lv =>
      have hpost : SavePost pb M base (.slice W n c) n way (.leaf lk lv) ms w (.returned undef) w6 :=
        ⟨rfl, _, H6.out.2.2.2.2.2.1, H6.out.2.2.1, H6.out.1, ⟨_, by rw [HH.out.1]; exact H6.out.2.1, fun _ => ⟨_, _, _, _, _, _, _, rfl, told_more H6.out.2.2.2.2.2.2.1 (by rw [HG.out]; omega)⟩⟩, H6.out.2.2.2.2.1, H6.out.2.2.2.1, by
          exact SNew.leaf (ms := ms) (k := lk) (v := lv) (B := w.heap.size) (w' := w6) (u := .agg xs) HH.out.1 (HYN.out.2 trivial) ⟨_, _, _, _, _, _, _, rfl, told_more H6.out.2.2.2.2.2.2.1 (by rw [HG.out]; omega)⟩⟩
      have HPOST := Lib.hid hpost
      rw [show ((T.leaf lk lv).h : Int) = 0 from rfl] at hp6
      clear hpost H6 l6 r6
      go_wp2_with fail
      refine bodyPost_end (results_none rfl _ _ _) rfl ?_
      exact HPOST.out
    | node sl sr =>
      obtain ⟨IHl, IHr⟩ := HIH.out sl sr rfl
      change w6.rangeAt g5 4 (sl.sum.map V8) at l6
      change w6.rangeAt g5 36 (sr.sum.map V8) at r6
      have hq6 : decide (0 < (T.node sl sr).h) = true := by have := h_ne sl sr; simp; omega
      have hnn : n ≤ 1000 := by have := n_pos (T.node sl sr); omega
      have hdeep' : n + (T.node sl sr).n ≤ t.n := by omega
      have hg57 : g5 < w6.heap.size := by omega
      have hrown : ∀ r, (Value.slice W n c).ownBlock = some r → r ≠ g5 := fun r hr => by have := (hrow' r hr).2; omega
      obtain ⟨-, hT6⟩ := H6.out.2.2.2.2.2.2
      have hrow6 := H6.out.2.2.2.2.1
      have hbat6 := H6.out.2.2.2.2.2.1
      have hnv6 := H6.out.2.2.1
      have hb6 : base ≤ w6.heap.size := by omega
      have hg06 : g0 ≤ w6.heap.size := by omega
      have HZ6 := Lib.hid hz6s
      clear hz6s
      have hS0 : w6.drew.rangeAt g5 4 (sl.sum.map V8) := l6
      have hi7 : (Tryd.prog.info? 29).map (·.size) = some (sl.sum.map V8).length := by rw [List.length_map, sum32]; exact info49
      have hT7a := Lib.hid (And.intro hT6 (And.intro hrow6 (And.intro hbat6 hnv6)))
      clear hT6 hrow6 hbat6 hnv6
      go_upto_region 7 with (fail)
      refine wp_region_held_drew (S := fun u => u.rangeAt g5 4 (sl.sum.map V8)) (by kernel_rfl) hS0 (fun hHeld => ?_)
      refine wpAnyH_take (i := 0) (oi := { dst := some 39, op := Op.move (Operand.tmp 0), type := 50, pos := "nodes.go:39", after := #[], guard := none }) (v := ?_) rfl (by kernel_rfl) (by kernel_rfl) (by kernel_rfl) (fun _ _ _ h => h) (Or.inl ⟨by rfl, ?_⟩) (by assumption) ?_
      rotate_left
      · first | (intro w hSw; (try dsimp only at hSw); go_simp; done) | (intro w hSw; (try dsimp only at hSw); go_simp; with_reducible rfl)
      simp only [Act.put, List.setIfInBounds_toArray, List.set_cons_zero, List.set_cons_succ]
      refine wpAnyH_take (i := 1) (oi := { dst := some 40, op := Op.fieldAddr 47 (Operand.tmp 10) 4, type := 0, pos := "nodes.go:39", after := #[], guard := none }) (v := ?_) rfl (by kernel_rfl) (by kernel_rfl) (by kernel_rfl) (fun _ _ _ h => h) (Or.inl ⟨by rfl, ?_⟩) (by assumption) ?_
      rotate_left
      · first | (intro w hSw; (try dsimp only at hSw); go_simp; done) | (intro w hSw; (try dsimp only at hSw); go_simp; with_reducible rfl)
      simp only [Act.put, List.setIfInBounds_toArray, List.set_cons_zero, List.set_cons_succ]
      refine wpAnyH_take (i := 2) (oi := { dst := some 41, op := Op.load 29 (Operand.tmp 40), type := 29, pos := "nodes.go:39", after := #[{ on := 1, ground := Ground.data }], guard := none }) (v := .agg (sl.sum.map V8).toArray) rfl (by kernel_rfl) (by kernel_rfl) (by kernel_rfl) (fun _ _ _ h => h) (yieldsIf_load_mid (by rfl) 29 (.tmp 40) rfl g5 4 rfl (sl.sum.map V8) _ (fun _ h => h) Tryd.underlying29 rfl hi7) (by assumption) ?_
      simp only [Act.put, List.setIfInBounds_toArray, List.set_cons_zero, List.set_cons_succ]
      refine wpAnyH_take (i := 3) (oi := { dst := some 42, op := Op.move (Operand.tmp 2), type := 24, pos := "nodes.go:39", after := #[], guard := none }) (v := ?_) rfl (by kernel_rfl) (by kernel_rfl) (by kernel_rfl) (fun _ _ _ h => h) (Or.inl ⟨by rfl, ?_⟩) (by assumption) ?_
      rotate_left
      · first | (intro w hSw; (try dsimp only at hSw); go_simp; done) | (intro w hSw; (try dsimp only at hSw); go_simp; with_reducible rfl)
      simp only [Act.put, List.setIfInBounds_toArray, List.set_cons_zero, List.set_cons_succ]
      refine wpAnyH_take (i := 4) (oi := { dst := some 43, op := Op.move (Operand.tmp 3), type := 123, pos := "nodes.go:39", after := #[], guard := none }) (v := ?_) rfl (by kernel_rfl) (by kernel_rfl) (by kernel_rfl) (fun _ _ _ h => h) (Or.inl ⟨by rfl, ?_⟩) (by assumption) ?_
      rotate_left
      · first | (intro w hSw; (try dsimp only at hSw); go_simp; done) | (intro w hSw; (try dsimp only at hSw); go_simp; with_reducible rfl)
      simp only [Act.put, List.setIfInBounds_toArray, List.set_cons_zero, List.set_cons_succ]
      refine wpAnyH_ready (rs := [5]) (by kernel_rfl) (by simp) ?_
      refine AllReadyH.cons (o := { dst := some 44, op := Op.buildSlice 123 1 #[(0, Operand.const (Value.bool false))], type := 123, pos := "nodes.go:39", after := #[], guard := none }) rfl (fun K hK => ?_) AllReadyH.nil
      go_simp
      have hb7 : Below w6.heap.size w6 (w6.alloc (.cells #[.bool false] 4)).drew := ((Below.refl _ _).alloc (Nat.le_refl _) _).drew
      have hc7 : (w6.alloc (.cells #[.bool false] 4)).drew.cell? ⟨w6.heap.size, 0, none⟩ = some (.bool false) := (Whole.made w6 4 #[.bool false]).at_ rfl
      have hr7 := own_below' hT7a.out.2.1 hb7
      have hsz7 : (w6.alloc (.cells #[.bool false] 4)).drew.heap.size = w6.heap.size + 1 := size_alloc _ _
      have hrg7 : (w6.alloc (.cells #[.bool false] 4)).drew.rangeAt g5 4 (sl.sum.map V8) := range_keep l6 hb7 hg57
      refine hK.out _ _ hrg7 (fun _ => ?_)
      clear hK K hHeld hS0
      generalize (w6.alloc (.cells #[.bool false] 4)).drew = u7 at *
      obtain ⟨v7, x7, hrun7, hown7, hgr7, hat7⟩ := append_way u7 base W n c (way.map Value.bool) hr7 (by omega) w6.heap.size (.bool false) hc7 rfl hnn 123
      obtain ⟨W7, c7, rfl, _, _⟩ := own_form hown7
      have hfu7 : Fr M (Value.slice W n c).ownBlock w6 x7 := (Fr.of_below hb7).trans (Fr.of_grown hgr7)
      have hrx7 : x7.rangeAt g5 4 (sl.sum.map V8) := fun j v hv => (World.cell?_of_block (hgr7.block g5 (by omega) (fun e => hrown g5 e.symm rfl))).trans (hrg7 j v hv)
      refine wpAnyH_ready (rs := [6]) (by kernel_rfl) (by simp) ?_
      refine AllReadyH.cons (o := { dst := some 45, op := Op.call { callee := Callee.builtin Builtin.append, args := #[Operand.tmp 43, Operand.tmp 44], argTypes := #[123, 123] }, type := 123, pos := "nodes.go:39", after := #[{ on := 4, ground := Ground.data }, { on := 5, ground := Ground.data }], guard := none }) rfl (fun K hK => ?_) AllReadyH.nil
      refine Eq.mpr (if_pos (by rfl)) ?_
      refine step_append_way (.tmp 43) (.tmp 44) rfl (.slice W n c) (.slice (some ⟨w6.heap.size, 0, none⟩) 1 1) _ x7 rfl rfl hrun7 ?_
      refine hK.out _ _ hrx7 (fun _ => ?_)
      clear hK K hrun7 hrg7 hc7 hr7
      have hrx : ∀ r, (Value.slice W n c).ownBlock = some r → base ≤ r ∧ r < w6.heap.size := fun r hr => ⟨(hrow' r hr).1, by have := (hrow' r hr).2; omega⟩
      have hgS : g5 < u7.heap.size := by omega
      have hbat7 : BAt x7 pb M (ms ++ [(h, Value.agg xs)]) := bat_grown (hT7a.out.2.2.1.below hb7) hgr7 (fun e => by have := (hrx pb e.symm).1; omega) (fun e => by have := (hrx M e.symm).1; omega)
      have hT7 : TIn (fun b => b ≠ M) x7 base (some t) g0t := tin_fr hT7a.out.1 hfu7 (by omega) (fun r hr => (hrx r hr).1)
      have hoat7 : oat (some t) (way ++ [false]) = some sl := oat_snoc t way sl sr false HT.out.2.1
      have hmap7 : (way ++ [false]).map Value.bool = way.map Value.bool ++ [.bool false] := by rw [List.map_append]; rfl
      refine wpAnyH_ready (rs := [7]) (by kernel_rfl) (by simp) ?_
      refine AllReadyH.cons (o := { dst := some 46, op := Op.call { callee := Callee.value (Operand.func 48), args := #[Operand.tmp 39, Operand.tmp 41, Operand.tmp 42, Operand.tmp 45], argTypes := #[50, 29, 24, 123] }, type := 0, pos := "nodes.go:39", after := #[{ on := 0, ground := Ground.data }, { on := 2, ground := Ground.data }, { on := 3, ground := Ground.data }, { on := 6, ground := Ground.data }, { on := 6, ground := Ground.chain }], guard := none }) rfl (fun K hK => ?_) AllReadyH.nil
      have HCALL := Lib.hid (IHl (way ++ [false]) W7 (n + 1) c7 (ms ++ [(h, Value.agg xs)]) x7 hbat7 hT7a.out.2.2.2 (by have := hgr7.size; omega) hT7 hoat7 (by rw [hmap7]; exact hown7))
      have HF := Lib.hid (And.intro hb7 (And.intro hgr7 (And.intro hat7 hrx)))
      clear hb7 hgr7 hat7 hrx hbat7 hT7 hoat7 hown7 hfu7
      rw [ptr_some, ptr_some] at HCALL
      clear hsz7
      go_simp
      refine HCALL.out.mono ?_
      have hx7s : w6.heap.size ≤ x7.heap.size := Nat.le_trans HF.out.1.size HF.out.2.1.size
      rintro e y7 ⟨rfl, ms7, hbat8, hnv8, hkeep7, -, hown7, hfr7, hnw7⟩
      rw [hmap7] at hown7
      obtain ⟨hfy7, hrow8⟩ := child_back HF.out.1 HF.out.2.1 HF.out.2.2.1 hfr7 hown7 hMb HF.out.2.2.2
      have hT8 := tin_fr hT7a.out.1 hfy7 (by omega) (fun r hr => (HF.out.2.2.2 r hr).1)
      have hrg7 : y7.rangeAt g5 4 (sl.sum.map V8) := range_fr l6 hfy7 hg57 hg5M (fun e => hrown g5 e.symm rfl)
      have hg58 : g5 < y7.heap.size := by have := hfy7.size; omega
      have hbase8 : base ≤ y7.heap.size := by have := hfy7.size; omega
      have hgy8 : g0 ≤ y7.heap.size := by have := hfy7.size; omega
      have HK7 := Lib.hid (And.intro hfy7 (And.intro hkeep7 (And.intro hnw7 hx7s)))
      clear hnw7
      refine hK.out _ _ hrg7 (fun _ => ?_)
      clear hK K hrg7 HF HCALL hown7 hfr7 hgS hmap7
      refine wpAnyH_done (by kernel_rfl) ?_ _
      have r7y : y7.rangeAt g5 36 (sr.sum.map V8) := range_fr r6 hfy7 hg57 hg5M (fun e => hrown g5 e.symm rfl)
      clear hfy7 hkeep7 l6 r6 hrx7 hT7a
      have hS0 : y7.drew.rangeAt g5 36 (sr.sum.map V8) := r7y
      have hi8 : (Tryd.prog.info? 29).map (·.size) = some (sr.sum.map V8).length := by rw [List.length_map, sum32]; exact info49
      have hT8a := Lib.hid (And.intro hT8 (And.intro hrow8 (And.intro hbat8 hnv8)))
      clear hT8 hrow8 hbat8 hnv8
      go_upto_region 8 with (fail)
      refine wp_region_held_drew (S := fun u => u.rangeAt g5 36 (sr.sum.map V8)) (by kernel_rfl) hS0 (fun hHeld => ?_)
      refine wpAnyH_take (i := 0) (oi := { dst := some 47, op := Op.move (Operand.tmp 0), type := 50, pos := "nodes.go:40", after := #[], guard := none }) (v := ?_) rfl (by kernel_rfl) (by kernel_rfl) (by kernel_rfl) (fun _ _ _ h => h) (Or.inl ⟨by rfl, ?_⟩) (by assumption) ?_
      rotate_left
      · first | (intro w hSw; (try dsimp only at hSw); go_simp; done) | (intro w hSw; (try dsimp only at hSw); go_simp; with_reducible rfl)
      simp only [Act.put, List.setIfInBounds_toArray, List.set_cons_zero, List.set_cons_succ]
      refine wpAnyH_take (i := 1) (oi := { dst := some 48, op := Op.fieldAddr 47 (Operand.tmp 10) 5, type := 0, pos := "nodes.go:40", after := #[], guard := none }) (v := ?_) rfl (by kernel_rfl) (by kernel_rfl) (by kernel_rfl) (fun _ _ _ h => h) (Or.inl ⟨by rfl, ?_⟩) (by assumption) ?_
      rotate_left
      · first | (intro w hSw; (try dsimp only at hSw); go_simp; done) | (intro w hSw; (try dsimp only at hSw); go_simp; with_reducible rfl)
      simp only [Act.put, List.setIfInBounds_toArray, List.set_cons_zero, List.set_cons_succ]
      refine wpAnyH_take (i := 2) (oi := { dst := some 49, op := Op.load 29 (Operand.tmp 48), type := 29, pos := "nodes.go:40", after := #[{ on := 1, ground := Ground.data }], guard := none }) (v := .agg (sr.sum.map V8).toArray) rfl (by kernel_rfl) (by kernel_rfl) (by kernel_rfl) (fun _ _ _ h => h) (yieldsIf_load_mid (by rfl) 29 (.tmp 48) rfl g5 36 rfl (sr.sum.map V8) _ (fun _ h => h) Tryd.underlying29 rfl hi8) (by assumption) ?_
      simp only [Act.put, List.setIfInBounds_toArray, List.set_cons_zero, List.set_cons_succ]
      refine wpAnyH_take (i := 3) (oi := { dst := some 50, op := Op.move (Operand.tmp 2), type := 24, pos := "nodes.go:40", after := #[], guard := none }) (v := ?_) rfl (by kernel_rfl) (by kernel_rfl) (by kernel_rfl) (fun _ _ _ h => h) (Or.inl ⟨by rfl, ?_⟩) (by assumption) ?_
      rotate_left
      · first | (intro w hSw; (try dsimp only at hSw); go_simp; done) | (intro w hSw; (try dsimp only at hSw); go_simp; with_reducible rfl)
      simp only [Act.put, List.setIfInBounds_toArray, List.set_cons_zero, List.set_cons_succ]
      refine wpAnyH_take (i := 4) (oi := { dst := some 51, op := Op.move (Operand.tmp 3), type := 123, pos := "nodes.go:40", after := #[], guard := none }) (v := ?_) rfl (by kernel_rfl) (by kernel_rfl) (by kernel_rfl) (fun _ _ _ h => h) (Or.inl ⟨by rfl, ?_⟩) (by assumption) ?_
      rotate_left
      · first | (intro w hSw; (try dsimp only at hSw); go_simp; done) | (intro w hSw; (try dsimp only at hSw); go_simp; with_reducible rfl)
      simp only [Act.put, List.setIfInBounds_toArray, List.set_cons_zero, List.set_cons_succ]
      refine wpAnyH_ready (rs := [5]) (by kernel_rfl) (by simp) ?_
      refine AllReadyH.cons (o := { dst := some 52, op := Op.buildSlice 123 1 #[(0, Operand.const (Value.bool true))], type := 123, pos := "nodes.go:40", after := #[], guard := none }) rfl (fun K hK => ?_) AllReadyH.nil
      go_simp
      have hb8 : Below y7.heap.size y7 (y7.alloc (.cells #[.bool true] 4)).drew := ((Below.refl _ _).alloc (Nat.le_refl _) _).drew
      have hc8 : (y7.alloc (.cells #[.bool true] 4)).drew.cell? ⟨y7.heap.size, 0, none⟩ = some (.bool true) := (Whole.made y7 4 #[.bool true]).at_ rfl
      have hr8 := own_below' hT8a.out.2.1 hb8
      have hsz8 : (y7.alloc (.cells #[.bool true] 4)).drew.heap.size = y7.heap.size + 1 := size_alloc _ _
      have hrg8 : (y7.alloc (.cells #[.bool true] 4)).drew.rangeAt g5 36 (sr.sum.map V8) := range_keep r7y hb8 hg58
      refine hK.out _ _ hrg8 (fun _ => ?_)
      clear hK K hHeld hS0
      generalize (y7.alloc (.cells #[.bool true] 4)).drew = u8 at *
      obtain ⟨v8, x8, hrun8, hown8, hgr8, hat8⟩ := append_way u8 base W n c (way.map Value.bool) hr8 (by omega) y7.heap.size (.bool true) hc8 rfl hnn 123
      obtain ⟨W8, c8, rfl, _, _⟩ := own_form hown8
      have hfu8 : Fr M (Value.slice W n c).ownBlock y7 x8 := (Fr.of_below hb8).trans (Fr.of_grown hgr8)
      have hrx8 : x8.rangeAt g5 36 (sr.sum.map V8) := fun j v hv => (World.cell?_of_block (hgr8.block g5 (by omega) (fun e => hrown g5 e.symm rfl))).trans (hrg8 j v hv)
      refine wpAnyH_ready (rs := [6]) (by kernel_rfl) (by simp) ?_
      refine AllReadyH.cons (o := { dst := some 53, op := Op.call { callee := Callee.builtin Builtin.append, args := #[Operand.tmp 51, Operand.tmp 52], argTypes := #[123, 123] }, type := 123, pos := "nodes.go:40", after := #[{ on := 4, ground := Ground.data }, { on := 5, ground := Ground.data }], guard := none }) rfl (fun K hK => ?_) AllReadyH.nil
      refine Eq.mpr (if_pos (by rfl)) ?_
      refine step_append_way (.tmp 51) (.tmp 52) rfl (.slice W n c) (.slice (some ⟨y7.heap.size, 0, none⟩) 1 1) _ x8 rfl rfl hrun8 ?_
      refine hK.out _ _ hrx8 (fun _ => ?_)
      clear hK K hrun8 hrg8 hc8 hr8
      have hrx : ∀ r, (Value.slice W n c).ownBlock = some r → base ≤ r ∧ r < y7.heap.size := fun r hr => ⟨(hrow' r hr).1, by have := (hrow' r hr).2; omega⟩
      have hgS : g5 < u8.heap.size := by omega
      have hbat8 : BAt x8 pb M (ms7) := bat_grown (hT8a.out.2.2.1.below hb8) hgr8 (fun e => by have := (hrx pb e.symm).1; omega) (fun e => by have := (hrx M e.symm).1; omega)
      have hT8 : TIn (fun b => b ≠ M) x8 base (some t) g0t := tin_fr hT8a.out.1 hfu8 (by omega) (fun r hr => (hrx r hr).1)
      have hoat8 : oat (some t) (way ++ [true]) = some sr := oat_snoc t way sl sr true HT.out.2.1
      have hmap8 : (way ++ [true]).map Value.bool = way.map Value.bool ++ [.bool true] := by rw [List.map_append]; rfl
      refine wpAnyH_ready (rs := [7]) (by kernel_rfl) (by simp) ?_
      refine AllReadyH.cons (o := { dst := some 54, op := Op.call { callee := Callee.value (Operand.func 48), args := #[Operand.tmp 47, Operand.tmp 49, Operand.tmp 50, Operand.tmp 53], argTypes := #[50, 29, 24, 123] }, type := 0, pos := "nodes.go:40", after := #[{ on := 0, ground := Ground.data }, { on := 2, ground := Ground.data }, { on := 3, ground := Ground.data }, { on := 6, ground := Ground.data }, { on := 6, ground := Ground.chain }], guard := none }) rfl (fun K hK => ?_) AllReadyH.nil
      have HCALL := Lib.hid (IHr (way ++ [true]) W8 (n + 1) c8 (ms7) x8 hbat8 hT8a.out.2.2.2 (by have := hgr8.size; omega) hT8 hoat8 (by rw [hmap8]; exact hown8))
      have HF := Lib.hid (And.intro hb8 (And.intro hgr8 (And.intro hat8 hrx)))
      clear hb8 hgr8 hat8 hrx hbat8 hT8 hoat8 hown8 hfu8
      rw [ptr_some, ptr_some] at HCALL
      clear hsz8
      go_simp
      refine HCALL.out.mono ?_
      have hx8s : y7.heap.size ≤ x8.heap.size := Nat.le_trans HF.out.1.size HF.out.2.1.size
      rintro e y8 ⟨rfl, ms8, hbat9, hnv9, hkeep8, -, hown8, hfr8, hnw8⟩
      rw [hmap8] at hown8
      obtain ⟨hfy8, hrow9⟩ := child_back HF.out.1 HF.out.2.1 HF.out.2.2.1 hfr8 hown8 hMb HF.out.2.2.2
      have hT9 := tin_fr hT8a.out.1 hfy8 (by omega) (fun r hr => (HF.out.2.2.2 r hr).1)
      have hrg8 : y8.rangeAt g5 36 (sr.sum.map V8) := range_fr r7y hfy8 hg58 hg5M (fun e => hrown g5 e.symm rfl)
      have hg59 : g5 < y8.heap.size := by have := hfy8.size; omega
      have hbase9 : base ≤ y8.heap.size := by have := hfy8.size; omega
      have hgy9 : g0 ≤ y8.heap.size := by have := hfy8.size; omega
      have HK8 := Lib.hid (And.intro hfy8 (And.intro hkeep8 (And.intro hnw8 hx8s)))
      clear hnw8
      refine hK.out _ _ hrg8 (fun _ => ?_)
      clear hK K hrg8 HF HCALL hown8 hfr8 hgS hmap8
      refine wpAnyH_done (by kernel_rfl) ?_ _
      have hpost : SavePost pb M base (.slice W n c) n way (.node sl sr) ms w (.returned undef) y8 :=
        ⟨rfl, ms8, hbat9, hnv9, fun k v hv => HK8.out.2.1 _ _ (HK7.out.2.1 _ _ (H6.out.1 k v hv)), ⟨.agg xs, by rw [HH.out.1]; exact HK8.out.2.1 _ _ (HK7.out.2.1 _ _ H6.out.2.1), fun _ =>
          ⟨_, _, _, _, _, _, _, rfl, told_more (told_fr H6.out.2.2.2.2.2.2.1 (HK7.out.1.trans HK8.out.1) (by omega) (fun r hr => by have := (hrow' r hr).2; omega)) (by rw [HG.out]; omega)⟩⟩, hrow9, H6.out.2.2.2.1.trans (HK7.out.1.trans HK8.out.1), by
          have hx7 := HK7.out.2.2.2
          have hx8 := HK8.out.2.2.2
          have hy7 := HK7.out.1.size
          have hM6 : M < w6.heap.size := by omega
          have h7 := HK7.out.2.2.1.fr HK8.out.1 (by omega) (fun r hr => by have := (hrow' r hr).2; omega)
          refine SNew.node (u := .agg xs) HH.out.1 (HYN.out.2 trivial) ⟨_, _, _, _, _, _, _, rfl, told_more (told_fr H6.out.2.2.2.2.2.2.1 (HK7.out.1.trans HK8.out.1) (by omega) (fun r hr => by have := (hrow' r hr).2; omega)) (by rw [HG.out]; omega)⟩ h7 HK8.out.2.2.1 (by rw [HG.out]; omega) (by rw [HG.out]; omega)⟩
      have HPOST := Lib.hid hpost
      clear hpost
      go_wp2_with fail
      refine bodyPost_end (results_none rfl _ _ _) rfl ?_
      exact HPOST.out
end Go.Proofs.YtolkpjbbfopmnaaDoor
namespace Go.Proofs.YtolkpjbbfopmnaaDoor
open Go.RowKit Go.Shelf
open Tr

theorem save_any (pb M base g0t : Nat) (t : T) (hpbb : pb < base) (hMb : M < base) (htn : t.n ≤ 1000) (s : T) : SaveAt pb M base g0t t s := by
  induction s with
  | leaf k v => exact save_core pb M base g0t t hpbb hMb htn _ (fun l r h => by cases h)
  | node l r ihl ihr => exact save_core pb M base g0t t hpbb hMb htn _ (fun l' r' h => by injection h with h1 h2; subst h1 h2; exact ⟨ihl, ihr⟩)

set_option maxRecDepth 100000 in
set_option maxHeartbeats 600000 in
theorem save_none (pb M g0t : Nat) (h : List UInt8) (hl : h.length = 32) (ms : List (List UInt8 × Value)) (w : World) (hB : BAt w pb M ms) (hV : NVals ms) (hT : TIn (fun b => b ≠ M) w w.heap.size none g0t) :
    Calls Tryd.prog 48 #[ptr (some pb), .agg (Sh.bcells h), ptr (some g0t), .slice none 0 0] w fun e w' => e = .returned undef ∧ Below w.heap.size w w' := by
  obtain ⟨X, is, hX, hone, hrun, -, -⟩ := look_case (M := M) hV h hl
  have hb := (Below.refl w.heap.size w).alloc (Nat.le_refl _) (.cells (Sh.bcells h) 29)
  have hw := Whole.made w 29 (Sh.bcells h)
  have cb : (w.alloc (.cells (Sh.bcells h) 29)).cell? ⟨pb, 0, none⟩ = some (.map (some M)) := (hb.cell (p := ⟨pb, 0, none⟩) hB.1.lt).trans (hB.1.at_ (i := 0) rfl)
  have hpb : pb < (w.alloc (.cells (Sh.bcells h) 29)).heap.size := Nat.lt_of_lt_of_le hB.1.lt hb.size
  have hg0 : w.heap.size < (w.alloc (.cells (Sh.bcells h) 29)).heap.size := by simp
  have HRG : Hid ((w.alloc (.cells (Sh.bcells h) 29)).rangeAt w.heap.size 0 (h.map V8)) := Lib.hid hw.range
  have HRUN := Lib.hid (fun (u : World) (hbu : Below (w.alloc (.cells (Sh.bcells h) 29)).heap.size (w.alloc (.cells (Sh.bcells h) 29)) u) => hrun u ((hB.below hb).below hbu).2.1)
  have HI : Hid ((Tryd.prog.info? 29).map (·.size) = some (h.map V8).length) := Lib.hid (by rw [List.length_map, hl]; exact info49)
  have HB := Lib.hid hb
  have HT := Lib.hid hT
  clear hb hw hrun hB hV hT hl
  change Hid (∀ (u : World), Below (w.alloc (.cells (Sh.bcells h) 29)).heap.size (w.alloc (.cells (Sh.bcells h) 29)) u → (Instr.lookup 94 (.map (some M)) (.agg (h.map V8).toArray) true).run Tryd.prog u = .ok (.tuple #[.agg X, .bool is]) u) at HRUN
  obtain ⟨g0, hgg⟩ : ∃ g, w.heap.size = g := ⟨_, rfl⟩
  rw [hgg] at HRG hg0 HB
  have HG := Lib.hid hgg
  rw [ptr_some, ptr_some]
  go_enter Tryd.func48, Tryd.ntmps48
  go_upto_region 1 with (fail)
  generalize w.alloc (.cells (Sh.bcells h) 29) = w1 at *
  clear hgg
  have hS0 : w1.drew.cell? ⟨pb, 0, none⟩ = some (.map (some M)) ∧ w1.drew.rangeAt g0 0 (h.map V8) ∧ (Instr.lookup 94 (.map (some M)) (.agg (h.map V8).toArray) true).run Tryd.prog w1.drew = .ok (.tuple #[.agg X, .bool is]) w1.drew := ⟨cb, HRG.out, HRUN.out w1.drew (Below.refl _ _).drew⟩
  refine wp_region_held_drew (S := fun u => u.cell? ⟨pb, 0, none⟩ = some (.map (some M)) ∧ u.rangeAt g0 0 (h.map V8) ∧ (Instr.lookup 94 (.map (some M)) (.agg (h.map V8).toArray) true).run Tryd.prog u = .ok (.tuple #[.agg X, .bool is]) u) (by kernel_rfl) hS0 (fun hHeld => ?_)
  refine wpAnyH_take (i := 0) (oi := { dst := some 13, op := Op.move (Operand.tmp 0), type := 50, pos := "nodes.go:30", after := #[], guard := none }) (v := ?_) rfl (by kernel_rfl) (by kernel_rfl) (by kernel_rfl) (fun _ _ _ h => h) (Or.inl ⟨by rfl, ?_⟩) (by assumption) ?_
  rotate_left
  · first | (intro w hSw; (try dsimp only at hSw); go_simp; done) | (intro w hSw; (try dsimp only at hSw); go_simp; with_reducible rfl)
  simp only [Act.put, List.setIfInBounds_toArray, List.set_cons_zero, List.set_cons_succ]
  refine wpAnyH_take (i := 1) (oi := { dst := some 14, op := Op.nilCheck (Operand.tmp 13), type := 0, pos := "nodes.go:30", after := #[{ on := 0, ground := Ground.data }], guard := none }) (v := ?_) rfl (by kernel_rfl) (by kernel_rfl) (by kernel_rfl) (fun _ _ _ h => h) (Or.inl ⟨by rfl, ?_⟩) (by assumption) ?_
  rotate_left
  · first | (intro w hSw; (try dsimp only at hSw); go_simp; done) | (intro w hSw; (try dsimp only at hSw); go_simp; with_reducible rfl)
  simp only [Act.put, List.setIfInBounds_toArray, List.set_cons_zero, List.set_cons_succ]
  refine wpAnyH_take (i := 2) (oi := { dst := some 15, op := Op.fieldAddr 96 (Operand.tmp 14) 0, type := 0, pos := "nodes.go:30", after := #[{ on := 1, ground := Ground.data }], guard := none }) (v := ?_) rfl (by kernel_rfl) (by kernel_rfl) (by kernel_rfl) (fun _ _ _ h => h) (Or.inl ⟨by rfl, ?_⟩) (by assumption) ?_
  rotate_left
  · first | (intro w hSw; (try dsimp only at hSw); go_simp; done) | (intro w hSw; (try dsimp only at hSw); go_simp; with_reducible rfl)
  simp only [Act.put, List.setIfInBounds_toArray, List.set_cons_zero, List.set_cons_succ]
  refine wpAnyH_take (i := 3) (oi := { dst := some 16, op := Op.load 94 (Operand.tmp 15), type := 94, pos := "nodes.go:30", after := #[{ on := 2, ground := Ground.data }], guard := none }) (v := ?_) rfl (by kernel_rfl) (by kernel_rfl) (by kernel_rfl) (fun _ _ _ h => h) (Or.inl ⟨by rfl, ?_⟩) (by assumption) ?_
  rotate_left
  · first | (intro w hSw; (try dsimp only at hSw); go_simp; done) | (intro w hSw; (try dsimp only at hSw); go_simp; with_reducible rfl)
  simp only [Act.put, List.setIfInBounds_toArray, List.set_cons_zero, List.set_cons_succ]
  refine wpAnyH_take (i := 4) (oi := { dst := some 17, op := Op.load 29 (Operand.tmp 5), type := 29, pos := "nodes.go:30", after := #[], guard := none }) (v := .agg (h.map V8).toArray) rfl (by kernel_rfl) (by kernel_rfl) (by kernel_rfl) (fun _ _ _ h => h) (yieldsIf_load_mid (by rfl) 29 (.tmp 5) rfl g0 0 rfl (h.map V8) _ (fun _ h => h.2.1) Tryd.underlying29 rfl HI.out) (by assumption) ?_
  simp only [Act.put, List.setIfInBounds_toArray, List.set_cons_zero, List.set_cons_succ]
  refine wpAnyH_take (i := 5) (oi := { dst := some 18, op := Op.lookup 94 (Operand.tmp 16) (Operand.tmp 17) true, type := 74, pos := "nodes.go:30", after := #[{ on := 3, ground := Ground.data }, { on := 4, ground := Ground.data }], guard := none }) (v := ?_) rfl (by kernel_rfl) (by kernel_rfl) (by kernel_rfl) (fun _ _ _ h => h) (Or.inl ⟨by rfl, ?_⟩) (by assumption) ?_
  rotate_left
  · first | (intro w hSw; (try dsimp only at hSw); go_simp; done) | (intro w hSw; (try dsimp only at hSw); go_simp; with_reducible rfl)
  simp only [Act.put, List.setIfInBounds_toArray, List.set_cons_zero, List.set_cons_succ]
  refine wpAnyH_take (i := 6) (oi := { dst := some 12, op := Op.move (Operand.tmp 18), type := 74, pos := "nodes.go:30", after := #[{ on := 5, ground := Ground.data }], guard := none }) (v := ?_) rfl (by kernel_rfl) (by kernel_rfl) (by kernel_rfl) (fun _ _ _ h => h) (Or.inl ⟨by rfl, ?_⟩) (by assumption) ?_
  rotate_left
  · first | (intro w hSw; (try dsimp only at hSw); go_simp; done) | (intro w hSw; (try dsimp only at hSw); go_simp; with_reducible rfl)
  simp only [Act.put, List.setIfInBounds_toArray, List.set_cons_zero, List.set_cons_succ]
  refine wpAnyH_take (i := 7) (oi := { dst := some 19, op := Op.extract (Operand.tmp 12) 0, type := 47, pos := "nodes.go:30", after := #[{ on := 6, ground := Ground.data }], guard := none }) (v := ?_) rfl (by kernel_rfl) (by kernel_rfl) (by kernel_rfl) (fun _ _ _ h => h) (Or.inl ⟨by rfl, ?_⟩) (by assumption) ?_
  rotate_left
  · first | (intro w hSw; (try dsimp only at hSw); go_simp; done) | (intro w hSw; (try dsimp only at hSw); go_simp; with_reducible rfl)
  simp only [Act.put, List.setIfInBounds_toArray, List.set_cons_zero, List.set_cons_succ]
  refine wpAnyH_take (i := 8) (oi := { dst := some 20, op := Op.extract (Operand.tmp 12) 1, type := 4, pos := "nodes.go:30", after := #[{ on := 6, ground := Ground.data }, { on := 10, ground := Ground.gcOnly Departure.lateStores }], guard := none }) (v := ?_) rfl (by kernel_rfl) (by kernel_rfl) (by kernel_rfl) (fun _ _ _ h => h) (Or.inl ⟨by rfl, ?_⟩) (by assumption) ?_
  rotate_left
  · first | (intro w hSw; (try dsimp only at hSw); go_simp; done) | (intro w hSw; (try dsimp only at hSw); go_simp; with_reducible rfl)
  simp only [Act.put, List.setIfInBounds_toArray, List.set_cons_zero, List.set_cons_succ]
  have hz64 := zero64
  refine wpAnyH_ready (rs := [9]) (by kernel_rfl) (by simp) ?_
  refine AllReadyH.cons (o := { dst := some 8, op := Op.alloc 47, type := 0, pos := "nodes.go:30", after := #[], guard := none }) rfl (fun K hK => ?_) AllReadyH.nil
  go_simp
  have hb2 : Below w1.heap.size w1 (w1.alloc (.cells z64 47)).drew := ((Below.refl _ _).alloc (Nat.le_refl _) _).drew
  have hw2 : Whole (w1.alloc (.cells z64 47)).drew w1.heap.size 47 z64 := Whole.made w1 47 z64
  refine hK.out _ _ ⟨(hb2.cell (p := ⟨pb, 0, none⟩) hpb).trans cb, range_keep HRG.out hb2 hg0, HRUN.out _ hb2⟩ (fun _ => ?_)
  clear hK K hHeld hS0 hz64
  refine wpAnyH_ready (rs := [10]) (by kernel_rfl) (by simp) ?_
  refine AllReadyH.cons (o := { dst := none, op := Op.store 47 (Operand.tmp 8) (Operand.tmp 19), type := 0, pos := "nodes.go:30", after := #[{ on := 9, ground := Ground.data }, { on := 7, ground := Ground.data }, { on := 0, ground := Ground.phase }, { on := 1, ground := Ground.phase }, { on := 2, ground := Ground.phase }, { on := 3, ground := Ground.phase }, { on := 4, ground := Ground.phase }, { on := 5, ground := Ground.phase }, { on := 6, ground := Ground.phase }, { on := 7, ground := Ground.phase }, { on := 8, ground := Ground.textOnly Departure.lateStores }, { on := 9, ground := Ground.phase }], guard := none }) rfl (fun K hK => ?_) AllReadyH.nil
  refine Eq.mpr (if_pos (by rfl)) ?_
  refine wp_store_mid 47 (.tmp 8) (.tmp 19) rfl w1.heap.size 0 X rfl rfl ?_ ?_ hone ?_
  · rw [hX]; exact hw2.there_
  · rw [hX]; exact info64
  have hw3 := hw2.setAll (vs := X) (by rw [hX]; rfl)
  have hb3 : Below w1.heap.size w1 ((w1.alloc (.cells z64 47)).drew.setCells w1.heap.size 0 X.toList) := below_setCells w1 w1.heap.size _ 0 hb2 (Nat.le_refl _)
  refine hK.out _ _ ⟨(hb3.cell (p := ⟨pb, 0, none⟩) hpb).trans cb, range_keep HRG.out hb3 hg0, HRUN.out _ hb3⟩ (fun _ => ?_)
  clear hK K hb2 hw2
  have HW3 : Hid (Whole ((w1.alloc (.cells z64 47)).drew.setCells w1.heap.size 0 X.toList) w1.heap.size 47 X) := Lib.hid hw3
  have HB3 := Lib.hid hb3
  clear hw3 hb3
  generalize (w1.alloc (.cells z64 47)).drew.setCells w1.heap.size 0 X.toList = w3 at *
  refine wpAnyH_take (i := 11) (oi := { dst := some 9, op := Op.assign (Operand.tmp 20), type := 4, pos := "nodes.go:30", after := #[{ on := 8, ground := Ground.data }, { on := 10, ground := Ground.chain }, { on := 0, ground := Ground.phase }, { on := 1, ground := Ground.phase }, { on := 2, ground := Ground.phase }, { on := 3, ground := Ground.phase }, { on := 4, ground := Ground.phase }, { on := 5, ground := Ground.phase }, { on := 6, ground := Ground.phase }, { on := 7, ground := Ground.phase }, { on := 8, ground := Ground.phase }, { on := 9, ground := Ground.phase }, { on := 10, ground := Ground.phase }], guard := none }) (v := ?_) rfl (by kernel_rfl) (by kernel_rfl) (by kernel_rfl) (fun _ _ _ h => h) (Or.inl ⟨by rfl, ?_⟩) (by assumption) ?_
  rotate_left
  · first | (intro w hSw; (try dsimp only at hSw); go_simp; done) | (intro w hSw; (try dsimp only at hSw); go_simp; with_reducible rfl)
  simp only [Act.put, List.setIfInBounds_toArray, List.set_cons_zero, List.set_cons_succ]
  refine wpAnyH_done (by kernel_rfl) ?_ _
  have hb03 := HB.out.trans (HB3.out.mono (Nat.le_of_lt hg0))
  have hbx : Below w.heap.size w w3 := by rw [HG.out]; exact hb03
  have HBX := Lib.hid hbx
  have hs3 := hbx.size
  have HWY := Lib.hid (way_any (some none) (some g0t) none 0 0 [] w3 ⟨g0t, rfl, (HT.out.below hbx (Nat.le_refl _)).more hs3⟩ ⟨rfl, fun h => absurd h (Nat.lt_irrefl 0)⟩ (by omega))
  rw [ptr_some] at HWY
  clear hbx hb03 HRUN HRG HW3 HB3 cb HT HB hpb hg0
  cases is with
  | true =>
    go_wp2_with fail
    refine bodyPost_ret (results_none rfl _ _ _) rfl ?_
    exact ⟨rfl, HBX.out⟩
  | false =>
    go_wp2_with fail
    refine HWY.out.mono ?_
    rintro e w4 hpost
    rcases hpost with ⟨_, rfl, hb4⟩ | ⟨s', xs, A, na, ca, A', na', ca', hs', _⟩
    · have HB4 := Lib.hid (HBX.out.trans (hb4.mono hs3))
      clear hb4 HWY
      simp only []
      have hz64 := zero64
      iterate 13 go_step
      clear hz64
      have hwm := Whole.made w4 47 z64
      refine wpList_store_mid rfl 47 (.tmp 10) (.tmp 26) rfl w4.heap.size 0 z64 rfl rfl hwm.there_ (by rw [z64_size]; exact info64) z64_one ?_
      have hbs : Below w4.heap.size w4 ((w4.alloc (.cells z64 47)).setCells w4.heap.size 0 z64.toList) := below_setCells w4 w4.heap.size _ 0 ((Below.refl _ _).alloc (Nat.le_refl _) _) (Nat.le_refl _)
      generalize (w4.alloc (.cells z64 47)).setCells w4.heap.size 0 z64.toList = w5 at *
      have HB5 := Lib.hid (HB4.out.trans (hbs.mono (by have := HB4.out.size; omega)))
      clear hbs hwm HB4
      go_wp2_with fail
      refine bodyPost_ret (results_none rfl _ _ _) rfl ?_
      exact ⟨rfl, HB5.out⟩
    · cases hs'
end Go.Proofs.YtolkpjbbfopmnaaDoor
namespace Go.Proofs.YtolkpjbbfopmnaaDoor
open Go.RowKit Go.Shelf
open Tr

/-- What is there behind a Save: the root of a tree, as its own node if it was not there ahead. -/
def Saved (pb M : Nat) (o : Option T) (ms : List (List UInt8 × Value)) (w w' : World) : Prop :=
  ∃ ms', BAt w' pb M ms' ∧ NVals ms' ∧ (∀ k v, MAt.look ms k = some v → MAt.look ms' k = some v) ∧ (∀ t, o = some t → ∃ v, MAt.look ms' t.sum = some v ∧ (MAt.look ms t.sum = none → NodeV w' w.heap.size t v)) ∧ (o = none → ms' = ms) ∧ Fr M none w w' ∧ ∀ t, o = some t → SNew ms t ms' w.heap.size w'
/-- save from the root. -/
theorem save_root (pb M g0t : Nat) (o : Option T) (ms : List (List UInt8 × Value)) (w : World) (hB : BAt w pb M ms) (hV : NVals ms) (hT : TIn (fun b => b ≠ M) w w.heap.size o g0t) (htn : ∀ t, o = some t → t.n ≤ 1000) :
    Calls Tryd.prog 48 #[ptr (some pb), .agg (Sh.bcells (osum o)), ptr (some g0t), .slice none 0 0] w fun e w' => e = .returned undef ∧ Saved pb M o ms w w' := by
  cases o with
  | none =>
    refine (save_none pb M g0t _ (osum32 none) ms w hB hV hT).mono ?_
    rintro e w' ⟨rfl, hb⟩
    exact ⟨rfl, ms, hB.below hb, hV, fun _ _ h => h, fun t h => (by cases h), fun _ => rfl, Fr.of_below hb, fun t h => (by cases h)⟩
  | some t =>
    refine (save_any pb M w.heap.size g0t t hB.1.lt hB.2.1.lt (htn t rfl) t [] none 0 0 ms w hB hV (Nat.le_refl _) hT (oat_nil _) ⟨rfl, .inl ⟨rfl, rfl⟩⟩).mono ?_
    rintro e w' ⟨rfl, ms', h1, h2, h3, h4, _, h5, h6⟩
    exact ⟨rfl, ms', h1, h2, h3, fun t' e => by injection e with e; subst e; exact h4, fun h => (by cases h), h5, fun t' e => by injection e with e; subst e; exact h6⟩

set_option maxRecDepth 100000 in
set_option maxHeartbeats 600000 in
theorem save_tree (pb M g0t : Nat) (o : Option T) (ms : List (List UInt8 × Value)) (w : World) (hB : BAt w pb M ms) (hV : NVals ms) (hT : TIn (fun b => b ≠ M) w w.heap.size o g0t) (htn : ∀ t, o = some t → t.n ≤ 1000) (ht : Sh.Tab w 1) (hw1 : 1 < w.heap.size) :
    Calls Tryd.prog 16 #[ptr (some pb), ptr (some g0t)] w fun e w' => e = .returned (.tuple #[.agg (Sh.bcells (osum o)), .int .i64 0]) ∧ Saved pb M o ms w w' := by
  have hz49 := zero49
  have hE : ∀ u : World, (binOp .eql 94 (.map (some M)) (.map none)).run Tryd.prog u = .ok (.bool false) u := fun u => by with_unfolding_all rfl
  have hb : Below w.heap.size w (w.alloc (.cells (zb 32) 29)) := (Below.refl _ _).alloc (Nat.le_refl _) _
  have hw := Whole.made w 29 (zb 32)
  have cb : (w.alloc (.cells (zb 32) 29)).cell? ⟨pb, 0, none⟩ = some (.map (some M)) := (hb.cell (p := ⟨pb, 0, none⟩) hB.1.lt).trans (hB.1.at_ (i := 0) rfl)
  have hsw : (w.alloc (.cells (zb 32) 29)).heap.size = w.heap.size + 1 := size_alloc _ _
  have hT1 := (hT.below hb (Nat.le_refl _)).more (B' := (w.alloc (.cells (zb 32) 29)).heap.size) (by omega)
  have HRT := Lib.hid (root_any (G := fun b => b ≠ M) (some o) (some g0t) (w.alloc (.cells (zb 32) 29)) ⟨g0t, rfl, hT1⟩ (Sh.tab_below ht hb hw1) (by omega))
  rw [ptr_some] at HRT
  have HF := Lib.hid (And.intro hw (And.intro hb (And.intro hB (And.intro hV (And.intro hT htn)))))
  obtain ⟨gr, hgr⟩ : ∃ g, w.heap.size = g := ⟨_, rfl⟩
  have HG := Lib.hid hgr
  clear hb hw hB hV hT hT1 htn ht hw1
  rw [ptr_some, ptr_some]
  go_enter Tryd.func16, Tryd.ntmps16
  go_wp2_with fail
  refine HRT.out.mono ?_
  rintro e w2 ⟨rfl, hb2⟩
  rw [show topOf (some o) = o from rfl]
  have hl : (osum o).length = 32 := osum32 o
  simp only []
  have hsb2 := hb2.size
  clear HRT
  iterate 4 go_step
  clear hz49
  have hwm := Whole.made w2 29 (zb 32)
  refine wpList_store_mid rfl 29 (.tmp 6) (.tmp 24) rfl w2.heap.size 0 (Sh.bcells (osum o)) rfl rfl ?_ ?_ (Sh.bcells_one _) ?_
  · rw [show (Sh.bcells (osum o)).size = (zb 32).size from by rw [zb_size]; simp [Sh.bcells, hl]]; exact hwm.there_
  · rw [show (Sh.bcells (osum o)).size = (zb 32).size from by rw [zb_size]; simp [Sh.bcells, hl], zb_size]; exact info49
  have hws := hwm.setAll (vs := Sh.bcells (osum o)) (by rw [zb_size]; simp [Sh.bcells, hl])
  have hbs : Below w2.heap.size w2 ((w2.alloc (.cells (zb 32) 29)).setCells w2.heap.size 0 (Sh.bcells (osum o)).toList) := below_setCells w2 w2.heap.size _ 0 ((Below.refl _ _).alloc (Nat.le_refl _) _) (Nat.le_refl _)
  generalize (w2.alloc (.cells (zb 32) 29)).setCells w2.heap.size 0 (Sh.bcells (osum o)).toList = w3 at *
  obtain ⟨g6, hg6⟩ : ∃ g, w2.heap.size = g := ⟨_, rfl⟩
  rw [hg6] at hws ⊢
  have hb3 : Below w.heap.size w w3 := (HF.out.2.1.trans (hb2.mono (by omega))).trans (hbs.mono (by omega))
  have hws3 : w.heap.size ≤ w3.heap.size := hb3.size
  have hs3 : w2.heap.size ≤ w3.heap.size := hbs.size
  have h6 : w3.rangeAt g6 0 ((osum o).map V8) := hws.range
  have hI6 : (Tryd.prog.info? 29).map (·.size) = some ((osum o).map V8).length := by rw [List.length_map, hl]; exact info49
  have HR := Lib.hid (save_root pb M g0t o ms w3 (HF.out.2.2.1.below hb3) HF.out.2.2.2.1 ((HF.out.2.2.2.2.1.below hb3 (Nat.le_refl _)).more hws3) HF.out.2.2.2.2.2)
  rw [ptr_some, ptr_some] at HR
  have HW3 := Lib.hid (And.intro hws (hb2.trans (hbs.mono hsb2)))
  have HB3 := Lib.hid hb3
  have HS := Lib.hid (And.intro hs3 hws3)
  clear hb2 hbs hwm hb3 hws hs3 hws3
  go_upto_region 6 with (fail)
  refine wp_region_lit ?_
  iterate 3 go_step
  refine wpList_load_mid rfl 29 (.tmp 6) rfl g6 0 rfl _ _ h6 Tryd.underlying29 rfl hI6 ?_
  simp only [Act.put, List.setIfInBounds_toArray, List.set_cons_zero, List.set_cons_succ]
  go_wp2_with fail
  refine HR.out.mono ?_
  rintro e w4 ⟨rfl, ms', hB4, hV4, hk4, hn4, he4, hf4, hw4⟩
  simp only []
  have hg6l : g6 < w3.heap.size := HW3.out.1.lt
  have hMl : M < w.heap.size := HF.out.2.2.1.2.1.lt
  have hpl : pb < w.heap.size := HF.out.2.2.1.1.lt
  have hgrl : gr < w3.heap.size := by have := HS.out; have := HW3.out.2.size; rw [hsw] at this; have := HG.out; omega
  have h64 : w4.rangeAt g6 0 ((osum o).map V8) := range_fr h6 hf4 hg6l (by have := HS.out; have := hg6; omega) (fun e => by cases e)
  have hwr : Whole w4 gr 29 (zb 32) := (hf4.block gr hgrl (by have := HG.out; omega) (fun e => by cases e)).trans (by rw [← HG.out]; exact HF.out.1.below HW3.out.2 (by rw [hsw]; omega))
  have H4 := Lib.hid (And.intro hB4 (And.intro hV4 (And.intro hk4 (And.intro hn4 (And.intro he4 (And.intro hf4 hw4))))))
  have HS2 := Lib.hid (And.intro hg6l (And.intro hMl (And.intro hpl hgrl)))
  clear hB4 hV4 hk4 hn4 he4 hf4 hw4 HR h6 hg6l hMl hpl hgrl
  go_upto_region 7 with (fail)
  refine wp_region_lit ?_
  refine wpList_load_mid rfl 29 (.tmp 6) rfl g6 0 rfl _ _ h64 Tryd.underlying29 rfl hI6 ?_
  simp only [Act.put, List.setIfInBounds_toArray, List.set_cons_zero, List.set_cons_succ]
  refine wpList_store_mid rfl 29 (.tmp 4) (.tmp 29) rfl gr 0 (Sh.bcells (osum o)) rfl rfl ?_ ?_ (Sh.bcells_one _) ?_
  · rw [show (Sh.bcells (osum o)).size = (zb 32).size from by rw [zb_size]; simp [Sh.bcells, hl]]; exact hwr.there_
  · rw [show (Sh.bcells (osum o)).size = (zb 32).size from by rw [zb_size]; simp [Sh.bcells, hl], zb_size]; exact info49
  have hw5 := hwr.setAll (vs := Sh.bcells (osum o)) (by rw [zb_size]; simp [Sh.bcells, hl])
  have hb5 : Below gr w4 (w4.setCells gr 0 (Sh.bcells (osum o)).toList) := below_setCells w4 gr _ 0 (Below.refl _ _) (Nat.le_refl _)
  have hf5 : Fr gr none w4 (w4.setCells gr 0 (Sh.bcells (osum o)).toList) := ⟨hb5.os, hb5.tape, hb5.output, by rw [size_setCells]; exact Nat.le_refl _, fun k _ hk _ => setCells_other gr _ 0 w4 k hk⟩
  generalize w4.setCells gr 0 (Sh.bcells (osum o)).toList = w5 at *
  have hpost : Saved pb M o ms w w5 := by
    obtain ⟨hB4, hV4, hk4, hn4, he4, hf4, hw4⟩ := H4.out
    have hS := HS2.out
    have hG := HG.out
    have hH := HS.out
    refine ⟨ms', ⟨(hf5.block pb hB4.1.lt (by omega) (fun e => by cases e)).trans hB4.1, hB4.2.1.block (hf5.block M hB4.2.1.lt (by omega) (fun e => by cases e)), hB4.2.2⟩, hV4, hk4, fun t ht => ?_, he4, ?_, fun t ht => ((hw4 t ht).fr hf5 hS.2.2.2 (fun r hr => by cases hr)).less hH.2⟩
    · obtain ⟨v, h1, h2⟩ := hn4 t ht
      exact ⟨v, h1, fun hno => node_more (node_fr (h2 hno) hf5 hS.2.2.2 (fun r hr => by cases hr)) hH.2⟩
    · have h34 := (Fr.of_below (M := M) (row := none) HB3.out).trans hf4
      exact ⟨h34.os.symm ▸ hf5.os, h34.tape.symm ▸ hf5.tape, h34.output.symm ▸ hf5.output, Nat.le_trans h34.size hf5.size, fun k hk hM hr => (hf5.block k (Nat.lt_of_lt_of_le hk h34.size) (by omega) hr).trans (h34.block k hk hM hr)⟩
  have HPOST := Lib.hid (And.intro hpost hw5)
  clear hpost hw5 hb5 hf5 hwr h64
  go_wp2_with fail
  refine bodyPost_ret (results_cell2 Tryd.results16 _ _ _ ⟨gr, 0, none⟩ _ rfl (load_whole HPOST.out.2 29 _ Tryd.underlying29 rfl (by rw [Sh.bcells_size, hl]; exact info49))) rfl ?_
  exact ⟨rfl, HPOST.out.1⟩
end Go.Proofs.YtolkpjbbfopmnaaDoor
namespace Go.Proofs.YtolkpjbbfopmnaaDoor
open Go.RowKit Go.Shelf
open Tr

theorem gstep_keys (o : Option T) (a : Ac) (hs : Srt (optLeaves o)) (h : ∀ p ∈ optLeaves o, 1 ≤ p.1.length) (ha : 1 ≤ a.key.length) : ∀ p ∈ optLeaves (gstep o a), 1 ≤ p.1.length := by
  unfold gstep
  split
  · intro p hp
    have hp' : p ∈ putL (optLeaves o) a.key a.cut := by rw [← oput_leaves o a.key a.cut hs]; exact hp
    rcases putL_mem hp' with h1 | rfl
    · exact h p h1
    · exact ha
  · split
    · rename_i hf
      cases o with
      | none => intro p hp; cases hp
      | some t =>
        intro p hp
        have hp' : p ∈ cutL t.leaves a.key := by rw [← cut_leaves a.key t hs hf]; exact hp
        exact h p (List.mem_filter.1 hp').1
    · exact h
def ndT (t : T) : Tl.Tlv.Nd := ⟨t.key, t.val, t.h, t.n, t.lsum, t.rsum⟩
theorem key_leaf (t : T) : ∃ v, (t.key, v) ∈ t.leaves := by
  cases t with
  | leaf k v => exact ⟨v, by simp [T.leaves, T.key]⟩
  | node l r =>
    obtain ⟨v, q, h⟩ := T.head_leaves r
    exact ⟨v, by show (r.least, v) ∈ l.leaves ++ r.leaves; rw [h]; simp⟩
theorem ndT_fit (t : T) (h : t.n ≤ 1000) : (ndT t).fit := ⟨lsum32 t, rsum32 t, by show t.n < _; omega⟩
theorem ndT_may (t : T) (h : t.n ≤ 64) (hv : t.val.length ≤ 256) : (ndT t).may = true := by
  have hh := T.h_lt t
  cases t with
  | leaf k v =>
    have e1 : (T.leaf k v).lsum = Tl.Tlv.nought := rfl
    have e2 : (T.leaf k v).rsum = Tl.Tlv.nought := rfl
    have hv' : v.length ≤ 256 := hv
    simp [Tl.Tlv.Nd.may, ndT, T.h, T.n, T.val, e1, e2, hv']
  | node l r =>
    have h1 : 0 < (T.node l r).h := by show 0 < 1 + _; omega
    have e1 : (ndT (T.node l r)).h = ((T.node l r).h : Int) := rfl
    unfold Tl.Tlv.Nd.may
    rw [if_neg (by rw [e1]; omega), if_pos (by rw [e1]; omega)]
    rfl
theorem grow_keys : ∀ (m : Nat) (cs : List Ac) (o : Option T), Fine o → (∀ p ∈ optLeaves o, 1 ≤ p.1.length) → ∀ p ∈ optLeaves (grow m cs o), 1 ≤ p.1.length
  | 0, _, _, _, h => h
  | _ + 1, [], _, _, h => h
  | m + 1, a :: r, o, hf, h => by
    unfold grow
    split
    · exact h
    · refine grow_keys m r _ ?_ (gstep_keys o a hf.srt h (Ac.key_pos a))
      unfold gstep
      split
      · exact hf.put _ _
      · split
        · rename_i h2; exact hf.cut _ h2
        · exact hf
/-- Get of a root that is there, as its own node. -/
theorem get_root (pb M : Nat) (t : T) (ms : List (List UInt8 × Value)) (v : Value) (B : Nat) (w : World) (hB : BAt w pb M ms) (hV : NVals ms) (hv : MAt.look ms t.sum = some v) (hn : NodeV w B t v) (htn : t.n ≤ 64) (hk : 1 ≤ t.key.length) :
    Calls Tryd.prog 18 #[ptr (some pb), .agg (Sh.bcells t.sum)] w fun e w' => (∃ A n c, e = .returned (.tuple #[.slice A n c, .bool true]) ∧ Rd w' w'.heap.size A n (ndT t).bytes ∧ n ≤ c ∧ Tl.Fresh w.heap.size w' A) ∧ Below w.heap.size w w' ∧ Tl.Tlv.dec (ndT t).bytes = (0, ndT t) := by
  obtain ⟨cs, A, n, c, A', n', c', rfl, hT⟩ := hn
  obtain ⟨X, is, hX, hone, hrun, hyes, hno⟩ := look_case (M := M) hV t.sum (sum32 t)
  have hkl : t.key.length ≤ 96 := by rw [hT.key.len]; exact hT.kle
  have hvl : t.val.length ≤ 256 := by rw [hT.val.len]; exact hT.vle
  have hmay := ndT_may t htn hvl
  have hfit := ndT_fit t (by omega)
  have hz : (ndT t).z ≠ 0 := by have := n_pos t; show t.n ≠ 0; omega
  have hdec := Tl.dec_back (nd := ndT t) ⟨hk, hkl⟩ hmay hfit hz
  have henc := Tl.enc_good (nd := ndT t) (by show ¬ (t.key.length < 1 ∨ 96 < t.key.length); omega) hmay
  have his : is = true := by
    cases is with
    | true => rfl
    | false => rw [hno rfl] at hv; cases hv
  subst his
  have hXe : X = cs := by have := hyes rfl; rw [hv] at this; injection this with this; injection this with this; exact this.symm
  refine (get_core pb M ms t.sum (sum32 t) X true w hB hX hone hrun (ndT t) (fun _ => ⟨A, n, c, A', n', c', by rw [hXe, hT.eq]; rfl, ⟨hT.key, hT.knc, hT.val, hT.vnc⟩⟩) hfit).mono ?_
  rintro e w' ⟨_, h2, h3⟩
  obtain ⟨A1, n1, c1, he, hr, hnc, hnew⟩ := h2 rfl
  rw [henc] at he hr
  exact ⟨⟨A1, n1, c1, he, hr, hnc, hnew⟩, h3, hdec⟩
/-- Get of a root that is not there. -/
theorem get_none (pb M : Nat) (h : List UInt8) (hl : h.length = 32) (ms : List (List UInt8 × Value)) (w : World) (hB : BAt w pb M ms) (hV : NVals ms) (hv : MAt.look ms h = none) :
    Calls Tryd.prog 18 #[ptr (some pb), .agg (Sh.bcells h)] w fun e w' => e = .returned (.tuple #[.slice none 0 0, .bool false]) ∧ Below w.heap.size w w' := by
  obtain ⟨X, is, hX, hone, hrun, hyes, hno⟩ := look_case (M := M) hV h hl
  have his : is = false := by
    cases is with
    | false => rfl
    | true => rw [hyes rfl] at hv; cases hv
  subst his
  refine (get_core pb M ms h hl X false w hB hX hone hrun Tl.Tlv.Nd.zero (fun h => by cases h) Tl.Tlv.fit_zero).mono ?_
  rintro e w' ⟨h1, _, h3⟩
  exact ⟨h1 rfl, h3⟩
/-- The bytes of a tree's root: none of a tree that has none. -/
def obytes : Option T → List UInt8
  | none => []
  | some t => (ndT t).bytes
end Go.Proofs.YtolkpjbbfopmnaaDoor
namespace Go.Proofs.YtolkpjbbfopmnaaDoor
open Go.RowKit
open Tr

def Tr.T.text : T → List UInt8
  | .leaf k v => leafText k v
  | .node l r => innerText (UInt8.ofNat (T.node l r).h) (UInt64.ofNat (T.node l r).n) l.sum r.sum
theorem sum_text (t : T) : t.sum = Sh.Sha.sum t.text := by cases t <;> rfl
/-- What is summed for a node. -/
def Tr.T.texts : T → List (List UInt8)
  | .leaf k v => [leafText k v, v]
  | .node l r => [(T.node l r).text]
def texts (ts : List T) : List (List UInt8) := [] :: ts.flatMap T.texts
/-- No two unlike ones have one sum. -/
def Apart (ls : List (List UInt8)) : Prop := ∀ a ∈ ls, ∀ b ∈ ls, Sh.Sha.sum a = Sh.Sha.sum b → a = b
theorem text_mem (t : T) : t.text ∈ t.texts := by cases t <;> simp [T.text, T.texts]
theorem all_sub : ∀ {t s : T}, s ∈ t.all → ∀ {q : T}, q ∈ s.all → q ∈ t.all
  | .leaf k v, s, hs, q, hq => by
    obtain rfl : s = .leaf k v := by simpa [T.all] using hs
    exact hq
  | .node l r, s, hs, q, hq => by
    rcases List.mem_cons.1 (show s ∈ T.node l r :: (l.all ++ r.all) from hs) with rfl | hs
    · exact hq
    · rcases List.mem_append.1 hs with hs | hs
      · exact List.mem_cons_of_mem _ (List.mem_append_left _ (all_sub hs hq))
      · exact List.mem_cons_of_mem _ (List.mem_append_right _ (all_sub hs hq))
theorem left_all (l r : T) : l ∈ (T.node l r).all := List.mem_cons_of_mem _ (List.mem_append_left _ (self_all l))
theorem right_all (l r : T) : r ∈ (T.node l r).all := List.mem_cons_of_mem _ (List.mem_append_right _ (self_all r))
theorem texts_mem {ts : List T} {s : T} (h : s ∈ ts) {a : List UInt8} (ha : a ∈ s.texts) : a ∈ texts ts := List.mem_cons_of_mem _ (List.mem_flatMap.2 ⟨s, h, ha⟩)
theorem leafText_inj {k v k' v' : List UInt8} (h : leafText k v = leafText k' v') : k = k' ∧ Sh.Sha.sum v = Sh.Sha.sum v' := by
  unfold leafText at h
  injection h with _ h
  injection h with _ h
  have h1 := congrArg List.length h
  rw [List.length_append, List.length_append, Sh.sum_length, Sh.sum_length] at h1
  exact List.append_inj h (by omega)
theorem innerText_inj {h h' : UInt8} {z z' : UInt64} {l r l' r' : List UInt8} (hl : l.length = 32) (hl' : l'.length = 32) (e : innerText h z l r = innerText h' z' l' r') : l = l' ∧ r = r' := by
  unfold innerText at e
  injection e with _ e
  injection e with _ e
  have h2 := (List.append_inj e (by rw [Sh.Sha.be8_length, Sh.Sha.be8_length])).2
  exact List.append_inj h2 (by omega)
theorem text_eq {t : T} (h : Apart (texts t.all)) {s q : T} (hs : s ∈ t.all) (hq : q ∈ t.all) (e : s.sum = q.sum) : s.text = q.text :=
  h s.text (texts_mem hs (text_mem s)) q.text (texts_mem hq (text_mem q)) ((sum_text s).symm.trans (e.trans (sum_text q)))
theorem leaf_node {k v l r : List UInt8} {h : UInt8} {z : UInt64} (e : leafText k v = innerText h z l r) : False := by
  unfold leafText innerText at e
  injection e with e _
  exact absurd e (by decide)
theorem inj_all {t : T} (h : Apart (texts t.all)) (s : T) : s ∈ t.all → ∀ q, q ∈ t.all → s.sum = q.sum → s = q := by
  induction s with
  | leaf k v =>
    intro hs q hq e
    have h1 := text_eq h hs hq e
    cases q with
    | leaf k' v' =>
      obtain ⟨h2, h3⟩ := leafText_inj h1
      have h4 := h v (texts_mem hs (by simp [T.texts])) v' (texts_mem hq (by simp [T.texts])) h3
      rw [h2, h4]
    | node l r => exact (leaf_node h1).elim
  | node l r ihl ihr =>
    intro hs q hq e
    have h1 := text_eq h hs hq e
    cases q with
    | leaf k v => exact (leaf_node h1.symm).elim
    | node l' r' =>
      obtain ⟨h2, h3⟩ := innerText_inj (sum32 l) (sum32 l') h1
      rw [ihl (all_sub hs (left_all l r)) l' (all_sub hq (left_all l' r')) h2, ihr (all_sub hs (right_all l r)) r' (all_sub hq (right_all l' r')) h3]
theorem not_empty {t : T} (h : Apart (texts t.all)) : t.sum ≠ Sh.Sha.sum [] := fun e => by
  have h1 := h _ (texts_mem (self_all t) (text_mem t)) [] (List.mem_cons_self ..) (by rw [← sum_text]; exact e)
  cases t <;> simp [T.text, leafText, innerText] at h1
/-- Whatever is there has all beneath it there, but for the open ones. -/
def Clo (t : T) (ks : List (List UInt8)) (X : List T) : Prop := ∀ s ∈ t.all, s.sum ∈ ks → s ∈ X ∨ ∀ q ∈ s.all, q.sum ∈ ks
theorem skeys_sub : ∀ (s : T) (ks : List (List UInt8)) (k : List UInt8), k ∈ ks → k ∈ skeys ks s
  | .leaf a v, ks, k, h => by
    unfold skeys
    split
    · exact h
    · exact List.mem_append_left _ h
  | .node l r, ks, k, h => by
    unfold skeys
    split
    · exact h
    · exact skeys_sub r _ _ (skeys_sub l _ _ (List.mem_append_left _ h))
theorem skeys_all {t : T} (hi : ∀ {s q : T}, s ∈ t.all → q ∈ t.all → s.sum = q.sum → s = q) : ∀ (s : T), s ∈ t.all → ∀ (ks : List (List UInt8)) (X : List T), (∀ x ∈ X, s.n < x.n) → Clo t ks X →
    (∀ q ∈ s.all, q.sum ∈ skeys ks s) ∧ Clo t (skeys ks s) X
  | .leaf a v, hs, ks, X, hX, hC => by
    by_cases hin : (T.leaf a v).sum ∈ ks
    · rw [skeys_there hin]
      rcases hC _ hs hin with h | h
      · exact absurd (hX _ h) (Nat.lt_irrefl _)
      · exact ⟨h, hC⟩
    · rw [skeys_leaf rfl hin]
      refine ⟨fun q hq => ?_, fun s' hs' hin' => ?_⟩
      · obtain rfl : q = .leaf a v := by simpa [T.all] using hq
        exact List.mem_append_right _ (List.mem_singleton.2 rfl)
      · rcases List.mem_append.1 hin' with h | h
        · exact (hC s' hs' h).imp_right fun h q hq => List.mem_append_left _ (h q hq)
        · obtain rfl := hi hs' hs (List.mem_singleton.1 h)
          refine .inr fun q hq => ?_
          obtain rfl : q = .leaf a v := by simpa [T.all] using hq
          exact List.mem_append_right _ (List.mem_singleton.2 rfl)
  | .node l r, hs, ks, X, hX, hC => by
    have hln : l.n < (T.node l r).n := by have := n_pos r; show l.n < l.n + r.n; omega
    have hrn : r.n < (T.node l r).n := by have := n_pos l; show r.n < l.n + r.n; omega
    by_cases hin : (T.node l r).sum ∈ ks
    · rw [skeys_there hin]
      rcases hC _ hs hin with h | h
      · exact absurd (hX _ h) (Nat.lt_irrefl _)
      · exact ⟨h, hC⟩
    · rw [skeys_node rfl hin]
      have hC1 : Clo t (ks ++ [(T.node l r).sum]) (.node l r :: X) := fun s' hs' hin' => by
        rcases List.mem_append.1 hin' with h | h
        · rcases hC s' hs' h with h | h
          · exact .inl (List.mem_cons_of_mem _ h)
          · exact .inr fun q hq => List.mem_append_left _ (h q hq)
        · obtain rfl := hi hs' hs (List.mem_singleton.1 h)
          exact .inl (List.mem_cons_self ..)
      obtain ⟨h1, hC2⟩ := skeys_all hi l (all_sub hs (left_all l r)) _ _ (fun x hx => by
        rcases List.mem_cons.1 hx with rfl | hx
        · exact hln
        · exact Nat.lt_trans hln (hX x hx)) hC1
      obtain ⟨h2, hC3⟩ := skeys_all hi r (all_sub hs (right_all l r)) _ _ (fun x hx => by
        rcases List.mem_cons.1 hx with rfl | hx
        · exact hrn
        · exact Nat.lt_trans hrn (hX x hx)) hC2
      have hall : ∀ q ∈ (T.node l r).all, q.sum ∈ skeys (skeys (ks ++ [(T.node l r).sum]) l) r := fun q hq => by
        rcases List.mem_cons.1 (show q ∈ T.node l r :: (l.all ++ r.all) from hq) with rfl | hq
        · exact skeys_sub _ _ _ (skeys_sub _ _ _ (List.mem_append_right _ (List.mem_singleton.2 rfl)))
        · rcases List.mem_append.1 hq with hq | hq
          · exact skeys_sub _ _ _ (h1 q hq)
          · exact h2 q hq
      refine ⟨hall, fun s' hs' hin' => ?_⟩
      rcases hC3 s' hs' hin' with h | h
      · rcases List.mem_cons.1 h with rfl | h
        · exact .inr hall
        · exact .inl h
      · exact .inr h
theorem skeys_full {t : T} (h : Apart (texts t.all)) : ∀ q ∈ t.all, q.sum ∈ skeys [] t :=
  (skeys_all (fun hs hq e => inj_all h _ hs _ hq e) t (self_all t) [] [] (fun _ hx => by cases hx) (fun _ _ h => by cases h)).1
end Go.Proofs.YtolkpjbbfopmnaaDoor
namespace Go.Proofs.YtolkpjbbfopmnaaDoor
open Go.RowKit
open Tr

def awT : T := .node (.leaf [97] [49]) (.leaf [98] [50])
def awS : List (List UInt8) := (texts awT.all).map Sh.Sha.sum
theorem awS_nodup : awS.Nodup := by
  unfold awS
  decide +kernel
theorem apart_of : ∀ {ls : List (List UInt8)}, (ls.map Sh.Sha.sum).Nodup → Apart ls
  | [], _ => fun a ha => by cases ha
  | x :: ls, h => fun a ha b hb e => by
    rw [List.map_cons, List.nodup_cons] at h
    rcases List.mem_cons.1 ha with h1 | h1
    · rcases List.mem_cons.1 hb with h2 | h2
      · exact h1.trans h2.symm
      · exact (h.1 (by rw [← h1, e]; exact List.mem_map.2 ⟨b, h2, rfl⟩)).elim
    · rcases List.mem_cons.1 hb with h2 | h2
      · exact (h.1 (by rw [← h2, ← e]; exact List.mem_map.2 ⟨a, h1, rfl⟩)).elim
      · exact apart_of h.2 a h1 b h2 e
theorem awT_apart : Apart (texts awT.all) := apart_of awS_nodup
theorem awT_grown : oput (some (oput none [97] [49])) [98] [50] = awT := by rfl
end Go.Proofs.YtolkpjbbfopmnaaDoor
