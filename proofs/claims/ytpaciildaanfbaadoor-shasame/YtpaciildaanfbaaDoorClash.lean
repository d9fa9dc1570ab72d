/-
  What the document's answer Clash returns for two unlike texts with one sum: true; conditions: both are read, and the document's table holds its words. It only makes memory of its own.
-/
import Derived.Test.YtpaciildaanfbaaDoorHelp
import Derived.LoopN
namespace Go.Proofs.YtpaciildaanfbaaDoor
open Go.RowKit

theorem info25b : (Tryd.prog.info? 25).map (fun i => (i.zero, i.size, i.bytes)) = some (some (.agg (bcells (List.replicate 32 0))), 32, 32) := by kernel_rfl
def z64b : List UInt8 := List.replicate 64 0
theorem run_make2 (w : World) : (Instr.makeSlice 47 (.int .i64 2) (.int .i64 2)).run Tryd.prog w = .ok (.slice (some ⟨w.heap.size, 0, none⟩) 2 2) (w.alloc (.cells (bcells z64b) 25)) := by
  obtain ⟨i, hi, hz, hs, hb⟩ := info_of info25b
  have hr := run_make (P := Tryd.prog) w 47 25 i (.agg (bcells (List.replicate 32 0))) Tryd.underlying47 hi hz .i64 .i64 2 2 (by omega) (by omega) (by rw [hb]; decide) (by omega)
  rw [hs] at hr
  rw [show bcells z64b = madeCells (Value.cells (.agg (bcells (List.replicate 32 0)))) ((2 : Int).toNat * 32) from by kernel_rfl]
  exact hr
/-- Bytes stored over others, in the middle of a row of bytes. -/
theorem Whole.bytes {w : World} {g : Nat} {t : TypeId} {pre old post vs : List UInt8} {o : Nat} (h : Whole w g t (bcells (pre ++ (old ++ post)))) (ho : pre.length = o) (hl : old.length = vs.length) :
    Whole (w.setCells g o (bcells vs).toList) g t (bcells (pre ++ (vs ++ post))) := by
  subst ho
  have e : ∀ a b c : List UInt8, bcells (a ++ (b ++ c)) = (a.map V8 ++ (b.map V8 ++ c.map V8)).toArray := fun a b c => by
    rw [bcells_V]; simp only [List.map_append]
  rw [e] at h ⊢
  have h2 := Whole.setCells (vs.map V8) (pre.map V8) (old.map V8) (post.map V8) h (by simpa using hl)
  rw [List.length_map] at h2
  rw [bcells_V]
  exact h2
theorem Whole.midthere {w : World} {g : Nat} {t : TypeId} {cs : Array Value} (h : Whole w g t cs) (o n : Nat) (hn : o + n ≤ cs.size) : w.there g o n := fun j hj =>
  ⟨by rw [h.at_ (Array.getElem?_eq_getElem (show o + j < cs.size by omega))]; rfl, h.free _⟩
theorem Whole.midrange {w : World} {g : Nat} {t : TypeId} {pre mid post : List UInt8} (h : Whole w g t (bcells (pre ++ (mid ++ post)))) (o : Nat) (ho : pre.length = o) : w.rangeAt g o (mid.map V8) := fun j v hv => by
  refine h.at_ ?_
  subst ho
  rw [bcells_V, List.getElem?_toArray, List.map_append, List.map_append, List.getElem?_append_right (by simp), List.length_map, Nat.add_sub_cancel_left, List.getElem?_append_left (List.getElem?_eq_some_iff.1 hv).1]
  exact hv

set_option maxRecDepth 100000 in
set_option maxHeartbeats 2000000 in
theorem clash_two (w : World) (gp : Nat) (t : TypeId) (A1 A2 : Option Addr) (n1 n2 c1 c2 : Nat) (b1 b2 : List UInt8) (hr1 : Reads w A1 n1 b1) (hr2 : Reads w A2 n2 b2) (k1 : n1 ≤ 100000) (k2 : n2 ≤ 100000)
    (hne : b1 ≠ b2) (hsum : Sha.sum b1 = Sha.sum b2) (hgp : Whole w gp t #[.slice A1 n1 c1, .slice A2 n2 c2]) (ht0 : Tab w 0) (hw : 1 < w.heap.size) :
    Calls Tryd.prog 10 #[.slice (some ⟨gp, 0, none⟩) 2 2] w fun e w' => e = .returned (.bool true) ∧ Below w.heap.size w w' := by
  have HR1 := Lib.hid hr1
  have HR2 := Lib.hid hr2
  have HT0 := Lib.hid ht0
  have HGP := Lib.hid hgp
  have HNE := Lib.hid hne
  have HSUM := Lib.hid hsum
  clear hr1 hr2 ht0 hgp hne hsum
  have hmk := run_make2
  have hb0 : Below w.heap.size w (w.alloc (.cells (bcells z64b) 25)) := (Below.refl _ _).alloc (Nat.le_refl _) _
  have hw0 := Whole.made w 25 (bcells z64b)
  have g0 : (w.alloc (.cells (bcells z64b) 25)).cell? ⟨gp, 0, none⟩ = some (.slice A1 n1 c1) := (HGP.out.alloc _).at_ rfl
  have HB0 := Lib.hid hb0
  have HW0 := Lib.hid hw0
  clear hb0 hw0
  go_enter Tryd.func10, Tryd.ntmps10
  go_wp2_with fail
  clear hmk
  obtain ⟨gs, hgs⟩ : ∃ gs, gs = w.heap.size := ⟨_, rfl⟩
  rw [← hgs] at HW0 ⊢
  have hgsle : w.heap.size ≤ gs := by omega
  clear hgs
  generalize w.alloc (.cells (bcells z64b) 25) = w0 at *
  refine wp_loop_rounds 3 ?_
  rw [rounds_succ]
  go_wp2_with fail
  refine (ref_any A1 n1 c1 b1 w0 (HR1.out.below HB0.out) k1 (tab0_below HT0.out HB0.out hw) (by have := HB0.out.size; omega)).mono ?_
  rintro e w1 ⟨rfl, hb1⟩
  have l1 := sum_length b1
  have l2 := sum_length b2
  have hw1 := HW0.out.below hb1 HW0.out.lt
  have hth1 := hw1.midthere 0 32 (by rw [bcells_size]; decide)
  have hst1 := Whole.bytes (pre := []) (old := List.replicate 32 0) (post := List.replicate 32 0) (vs := Sha.sum b1) (o := 0) hw1 rfl (by rw [l1]; rfl)
  have hb1' : Below w.heap.size w (w1.setCells gs 0 (bcells (Sha.sum b1)).toList) := below_setCells _ _ _ _ (HB0.out.trans (hb1.mono HB0.out.size)) hgsle
  have s1 : (bcells (Sha.sum b1)).size = 32 := by rw [bcells_size, l1]
  have o1 := bcells_one (Sha.sum b1)
  simp only []
  iterate 4 go_step
  refine wpList_store_mid rfl 25 (.tmp 23) (.tmp 22) rfl gs 0 (bcells (Sha.sum b1)) ?_ ?_ (by rw [s1]; exact hth1) (by rw [s1]; exact info25) o1 ?_
  · rfl
  · rfl
  have HW2 := Lib.hid hst1
  have HB2 := Lib.hid hb1'
  clear hst1 hb1' hw1 hth1 hb1 HW0 HB0 g0 s1 o1
  generalize w1.setCells gs 0 (bcells (Sha.sum b1)).toList = w2 at *
  have g1 : w2.cell? ⟨gp, 1, none⟩ = some (.slice A2 n2 c2) := (HGP.out.below HB2.out HGP.out.lt).at_ rfl
  go_wp2_with fail
  rw [rounds_succ]
  go_wp2_with fail
  refine (ref_any A2 n2 c2 b2 w2 (HR2.out.below HB2.out) k2 (tab0_below HT0.out HB2.out hw) (by have := HB2.out.size; omega)).mono ?_
  rintro e w3 ⟨rfl, hb3⟩
  have hw3 := HW2.out.below hb3 HW2.out.lt
  have hth3 := hw3.midthere 32 32 (by rw [bcells_size]; simp [l1])
  have hst3 := Whole.bytes (pre := Sha.sum b1) (old := List.replicate 32 0) (post := []) (vs := Sha.sum b2) (o := 32) (by simpa using hw3) l1 (by rw [l2]; rfl)
  have hb3' : Below w.heap.size w (w3.setCells gs 32 (bcells (Sha.sum b2)).toList) := below_setCells _ _ _ _ (HB2.out.trans (hb3.mono HB2.out.size)) hgsle
  have s2 : (bcells (Sha.sum b2)).size = 32 := by rw [bcells_size, l2]
  have o2 := bcells_one (Sha.sum b2)
  simp only []
  iterate 4 go_step
  refine wpList_store_mid rfl 25 (.tmp 23) (.tmp 22) rfl gs 32 (bcells (Sha.sum b2)) ?_ ?_ (by rw [s2]; exact hth3) (by rw [s2]; exact info25) o2 ?_
  · rfl
  · rfl
  have HW4 := Lib.hid hst3
  have HB4 := Lib.hid hb3'
  clear hst3 hb3' hw3 hth3 hb3 HW2 HB2 g1 s2 o2
  generalize w3.setCells gs 32 (bcells (Sha.sum b2)).toList = w4 at *
  have g0 : w4.cell? ⟨gp, 0, none⟩ = some (.slice A1 n1 c1) := (HGP.out.below HB4.out HGP.out.lt).at_ rfl
  have g1 : w4.cell? ⟨gp, 1, none⟩ = some (.slice A2 n2 c2) := (HGP.out.below HB4.out HGP.out.lt).at_ rfl
  go_wp2_with fail
  rw [rounds_succ]
  go_wp2_with fail
  refine wp_loop_rounds 3 ?_
  rw [rounds_succ]
  go_wp2_with fail
  refine wp_loop_rounds 1 ?_
  rw [rounds_succ]
  go_wp2_with fail
  rw [rounds_succ]
  go_wp2_with fail
  refine wp_loop_rounds 1 ?_
  rw [rounds_succ]
  go_upto_region 12 with (fail)
  have hW4 := HW4.out.drew
  have hra : w4.drew.rangeAt gs 32 ((Sha.sum b2).map V8) := hW4.midrange 32 l1
  have hW4' : Whole w4.drew gs 25 (bcells ([] ++ (Sha.sum b1 ++ (Sha.sum b2 ++ [])))) := by rw [List.nil_append]; exact hW4
  have hrb : w4.drew.rangeAt gs 0 ((Sha.sum b1).map V8) := hW4'.midrange 0 rfl
  clear hW4 hW4'
  have i1 : (Tryd.prog.info? 25).map (·.size) = some ((Sha.sum b1).map V8).length := by rw [List.length_map, l1]; exact info25
  have i2 : (Tryd.prog.info? 25).map (·.size) = some ((Sha.sum b2).map V8).length := by rw [List.length_map, l2]; exact info25
  have heq := run_eq25 b2 b1 w4.drew
  rw [show (Sha.sum b2 == Sha.sum b1) = true by rw [beq_iff_eq]; exact HSUM.out.symm, bcells_V, bcells_V] at heq
  have hs1 := run_string w4.drew A1 n1 c1 b1 (HR1.out.below HB4.out.drew)
  have hs2 := run_string w4.drew A2 n2 c2 b2 (HR2.out.below HB4.out.drew)
  have hstr : ((⟨b2.toArray⟩ : ByteArray).toList == (⟨b1.toArray⟩ : ByteArray).toList) = false := by
    rw [beq_eq_false_iff_ne, ByteArray.toList_eq, ByteArray.toList_eq]
    exact fun e => HNE.out e.symm
  have HRA := Lib.hid hra
  have HRB := Lib.hid hrb
  have I1 := Lib.hid i1
  have I2 := Lib.hid i2
  clear hra hrb i1 i2 l1 l2
  generalize (⟨b1.toArray⟩ : ByteArray) = S1 at hs1 hstr
  generalize (⟨b2.toArray⟩ : ByteArray) = S2 at hs2 hstr
  generalize (Sha.sum b1).map V8 = X1 at *
  generalize (Sha.sum b2).map V8 = X2 at *
  have d0 : w4.drew.cell? ⟨gp, 0, none⟩ = some (.slice A1 n1 c1) := g0
  have d1 : w4.drew.cell? ⟨gp, 1, none⟩ = some (.slice A2 n2 c2) := g1
  clear g0 g1 HW4
  refine wp_region_still_lit (by kernel_rfl) (by kernel_rfl) ?_
  change wpStill _ _ w4.drew _ _ _
  generalize w4.drew = w5 at *
  still_step
  still_step
  still_step
  refine wpStill_load_mid rfl 25 (.tmp 37) rfl gs 32 ?_ X2 (.array 32 5) HRA.out Tryd.underlying25 rfl I2.out ?_
  · rfl
  go_simp
  still_step
  still_step
  still_step
  refine wpStill_load_mid rfl 25 (.tmp 41) rfl gs 0 ?_ X1 (.array 32 5) HRB.out Tryd.underlying25 rfl I1.out ?_
  · rfl
  go_simp
  repeat still_step
  refine wpStill_nil ?_
  go_wp2_with fail
  go_ret
  exact ⟨rfl, HB4.out.drew⟩
end Go.Proofs.YtpaciildaanfbaaDoor
