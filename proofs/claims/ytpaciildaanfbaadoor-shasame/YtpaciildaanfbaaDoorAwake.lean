/-
  The statements' fixed facts (chapter 1's two examples) come out true: condition: the table holds its words. It only makes memory of its own.
-/
import Derived.Test.YtpaciildaanfbaaDoorSum
import Derived.Lib.SlBytesConst
namespace Go.Proofs.YtpaciildaanfbaaDoor
open Go.RowKit

theorem sum_abc : ((Sha.sum [97, 98, 99]).getD 0 0, (Sha.sum [97, 98, 99]).getD 1 0, (Sha.sum [97, 98, 99]).getD 3 0) = (186, 120, 191) := by decide +kernel
theorem sum_nil : ((Sha.sum []).getD 0 0, (Sha.sum []).getD 1 0) = (227, 176) := by decide +kernel
theorem sum_length (bs : List UInt8) : (Sha.sum bs).length = 32 := Sha.outTo_length _ _

/-- Three bytes in a block of their own, handed over as the one part. -/
theorem parts_abc (w : World) (t1 t2 : TypeId) (fr : Nat × Nat) : Parts ((w.alloc (.cells #[.int .u8 97, .int .u8 98, .int .u8 99] t1 fr)).alloc (.cells #[.slice (some ⟨w.heap.size, 0, none⟩) 3 3] t2)) (some ⟨w.heap.size + 1, 0, none⟩) 1 [[97, 98, 99]] := by
  refine ⟨rfl, fun _ => ⟨w.heap.size + 1, 0, rfl, by simp, fun j l hl => ?_⟩⟩
  have hj : j < 1 := (List.getElem?_eq_some_iff.1 hl).1
  obtain rfl : j = 0 := by omega
  simp at hl
  subst hl
  have h2 := Whole.made (w.alloc (.cells #[.int .u8 97, .int .u8 98, .int .u8 99] t1 fr)) t2 #[.slice (some ⟨w.heap.size, 0, none⟩) 3 3]
  rw [show (w.alloc (.cells #[.int .u8 97, .int .u8 98, .int .u8 99] t1 fr)).heap.size = w.heap.size + 1 by simp] at h2
  have h1 : ((w.alloc (.cells #[.int .u8 97, .int .u8 98, .int .u8 99] t1 fr)).alloc (.cells #[.slice (some ⟨w.heap.size, 0, none⟩) 3 3] t2)).heap[w.heap.size]? = some (.cells #[.int .u8 97, .int .u8 98, .int .u8 99] t1 fr) :=
    (Below.heap_alloc _ _ _ (by simp)).trans (heap_alloc_last w _)
  refine ⟨some ⟨w.heap.size, 0, none⟩, 3, 3, h2.at_ rfl, by omega, by omega, rfl, fun _ => ⟨w.heap.size, 0, rfl, (Array.getElem?_eq_some_iff.1 h1).1, fun i v hv => ?_⟩⟩
  rw [Nat.zero_add, cell_of_row _ _ i _ _ _ h1]
  have hi : i < 3 := (List.getElem?_eq_some_iff.1 hv).1
  match i, hi with
  | 0, _ => simp at hv; subst hv; rfl
  | 1, _ => simp at hv; subst hv; rfl
  | 2, _ => simp at hv; subst hv; rfl
theorem Whole.setAll {w : World} {g : Nat} {t : TypeId} {cs vs : Array Value} (h : Whole w g t cs) (hl : cs.size = vs.size) : Whole (w.setCells g 0 vs.toList) g t vs := by
  have h1 : Whole w g t ([] ++ (cs.toList ++ [])).toArray := by simpa using h
  have := Whole.setCells vs.toList [] cs.toList [] h1 (by simpa using hl)
  simpa using this
theorem Whole.setOther {w : World} {g b : Nat} {t : TypeId} {cs : Array Value} (h : Whole w g t cs) (hb : g ≠ b) : ∀ (vs : List Value) (o : Nat), Whole (w.setCells b o vs) g t cs := by
  intro vs
  induction vs generalizing w with
  | nil => intro o; exact h
  | cons v r ih => intro o; exact ih (h.other (p := ⟨b, o, none⟩) hb v) (o + 1)
/-- Two sums laid into two new variables. -/
theorem two_sums (w : World) (Z A B : Array Value) (hZ : Z.size = 32) (hA : A.size = 32) (hB : B.size = 32) :
    Whole ((((w.alloc (.cells Z 25)).alloc (.cells Z 25)).setCells w.heap.size 0 A.toList).setCells (w.heap.size + 1) 0 B.toList) w.heap.size 25 A ∧
    Whole ((((w.alloc (.cells Z 25)).alloc (.cells Z 25)).setCells w.heap.size 0 A.toList).setCells (w.heap.size + 1) 0 B.toList) (w.heap.size + 1) 25 B ∧
    Below w.heap.size w ((((w.alloc (.cells Z 25)).alloc (.cells Z 25)).setCells w.heap.size 0 A.toList).setCells (w.heap.size + 1) 0 B.toList) ∧
    ((w.alloc (.cells Z 25)).alloc (.cells Z 25)).there w.heap.size 0 A.size ∧ (((w.alloc (.cells Z 25)).alloc (.cells Z 25)).setCells w.heap.size 0 A.toList).there (w.heap.size + 1) 0 B.size := by
  have h1 : Whole ((w.alloc (.cells Z 25)).alloc (.cells Z 25)) w.heap.size 25 Z := (Whole.made w 25 Z).alloc _
  have h2 : Whole ((w.alloc (.cells Z 25)).alloc (.cells Z 25)) (w.heap.size + 1) 25 Z := by
    have := Whole.made (w.alloc (.cells Z 25)) 25 Z
    rwa [show (w.alloc (.cells Z 25)).heap.size = w.heap.size + 1 by simp] at this
  have h3 := h1.setAll (vs := A) (by omega)
  have h4 := h2.setOther (b := w.heap.size) (by omega) A.toList 0
  refine ⟨h3.setOther (by omega) _ _, h4.setAll (by omega), below_setCells _ _ _ _ (below_setCells _ _ _ _ (((Below.refl _ _).alloc (Nat.le_refl _) _).alloc (by simp) _) (Nat.le_refl _)) (by omega), ?_, ?_⟩
  · have := h1.there_; rwa [hZ, ← hA] at this
  · have := h4.there_; rwa [hZ, ← hB] at this
theorem parts_none (w : World) (A : Option Addr) : Parts w A 0 [] := ⟨rfl, fun h => absurd h (by omega)⟩

theorem sum_as (A : Option Addr) (n c : Nat) (ls : List (List UInt8)) (bs : List UInt8) (hbs : ls.flatten = bs) (w : World) (hP : Parts w A n ls) (hn : n ≤ 140737488355328) (ht : Tab w 1) (hw : 1 < w.heap.size) :
    Calls Tryd.prog 8 #[.slice A n c] w fun e w' => e = .returned (.agg (bcells (Sha.sum bs))) ∧ Below w.heap.size w w' := by
  subst hbs
  exact sum_any A n c ls w hP hn ht hw

set_option maxRecDepth 100000 in
set_option maxHeartbeats 1000000 in
theorem awake_any (w : World) (ht : Tab w 1) (hw : 1 < w.heap.size) : Calls Tryd.prog 7 #[] w fun e w' => e = .returned (.bool true) ∧ Below w.heap.size w w' := by
  have HT := Lib.hid ht
  clear ht
  have s1 : (bcells (Sha.sum [97, 98, 99])).size = 32 := by rw [bcells_size, sum_length]
  have s2 : (bcells (Sha.sum [])).size = 32 := by rw [bcells_size, sum_length]
  obtain ⟨v0, v1, v2⟩ := Prod.mk.inj sum_abc |>.imp id Prod.mk.inj
  obtain ⟨u0, u1⟩ := Prod.mk.inj sum_nil
  have c0 := bcells_at (Sha.sum [97, 98, 99]) 0 (by rw [sum_length]; omega)
  have c1 := bcells_at (Sha.sum [97, 98, 99]) 1 (by rw [sum_length]; omega)
  have c3 := bcells_at (Sha.sum [97, 98, 99]) 3 (by rw [sum_length]; omega)
  have d0 := bcells_at (Sha.sum []) 0 (by rw [sum_length]; omega)
  have d1 := bcells_at (Sha.sum []) 1 (by rw [sum_length]; omega)
  rw [v0] at c0
  rw [v1] at c1
  rw [v2] at c3
  rw [u0] at d0
  rw [u1] at d1
  have o1 := bcells_one (Sha.sum [97, 98, 99])
  have o2 := bcells_one (Sha.sum [])
  have k1 := fun A n c ls h => sum_as A n c ls [97, 98, 99] h
  have k2 := fun A n c ls h => sum_as A n c ls [] h
  clear v0 v1 v2 u0 u1
  generalize bcells (Sha.sum [97, 98, 99]) = X at *
  generalize bcells (Sha.sum []) = Y at *
  have HF := Lib.hid (And.intro s1 (And.intro s2 (And.intro c0 (And.intro c1 (And.intro c3 (And.intro d0 (And.intro d1 (And.intro o1 o2))))))))
  have K1 := Lib.hid k1
  have K2 := Lib.hid k2
  clear s1 s2 c0 c1 c3 d0 d1 o1 o2 k1 k2
  have hcv := fun (w : World) (C : Array Value) (n c : Nat) => Lib.run_convert_bytes_const (P := Tryd.prog) w 22 5 C n c Tryd.underlying22 Tryd.underlying5
  go_enter Tryd.func7, Tryd.ntmps7
  go_wp2_with fail
  have hbp : Below w.heap.size w ((w.alloc (.cells #[.int .u8 97, .int .u8 98, .int .u8 99] 5 (3, 4))).alloc (.cells #[.slice (some ⟨w.heap.size, 0, none⟩) 3 3] 22)) :=
    ((Below.refl _ _).alloc (Nat.le_refl _) _).alloc (by simp) _
  refine (K1.out _ 1 1 [[97, 98, 99]] rfl _ (parts_abc w 5 22 (3, 4)) (by omega) (tab_below HT.out hbp hw) (by simp)).mono ?_
  rintro e w1 ⟨rfl, hb1⟩
  have hb2 : Below w.heap.size w w1 := hbp.trans (hb1.mono hbp.size)
  clear hbp hb1 hcv
  go_wp2_with fail
  refine (K2.out none 0 0 [] rfl w1 (parts_none _ _) (by omega) (tab_below HT.out hb2 hw) (by have := hb2.size; omega)).mono ?_
  rintro e w2 ⟨rfl, hb3⟩
  have hb4 : Below w.heap.size w w2 := hb2.trans (hb3.mono hb2.size)
  clear hb2 hb3
  simp only []
  iterate 7 go_step
  obtain ⟨s1, s2, c0, c1, c3, d0, d1, o1, o2⟩ := HF.out
  obtain ⟨t1, t2, t3, t4, t5⟩ := two_sums w2 (bcells (List.replicate 32 0)) X Y (by rw [bcells_size]; rfl) s1 s2
  refine wpList_store_mid rfl 25 (.tmp 1) (.tmp 6) rfl w2.heap.size 0 X ?_ ?_ t4 (by rw [s1]; exact info25) o1 ?_
  · rfl
  · rfl
  refine wpList_store_mid rfl 25 (.tmp 2) (.tmp 7) rfl (w2.heap.size + 1) 0 Y ?_ ?_ t5 (by rw [s2]; exact info25) o2 ?_
  · rfl
  · rfl
  have b0 := t1.at_ c0
  have b1 := t1.at_ c1
  have b3 := t1.at_ c3
  have e0 := t2.at_ d0
  have e1 := t2.at_ d1
  have hb5 : Below w.heap.size w _ := hb4.trans (t3.mono hb4.size)
  clear t1 t2 t3 t4 t5 c0 c1 c3 d0 d1 o1 o2 s1 s2 hb4 HF K1 K2
  rw [show bcells (List.replicate 32 0) = #[Value.int .u8 0, .int .u8 0, .int .u8 0, .int .u8 0, .int .u8 0, .int .u8 0, .int .u8 0, .int .u8 0, .int .u8 0, .int .u8 0, .int .u8 0, .int .u8 0, .int .u8 0, .int .u8 0, .int .u8 0, .int .u8 0, .int .u8 0, .int .u8 0, .int .u8 0, .int .u8 0, .int .u8 0, .int .u8 0, .int .u8 0, .int .u8 0, .int .u8 0, .int .u8 0, .int .u8 0, .int .u8 0, .int .u8 0, .int .u8 0, .int .u8 0, .int .u8 0] from rfl] at b0 b1 b3 e0 e1 hb5
  generalize World.setCells _ (w2.heap.size + 1) 0 Y.toList = w3 at *
  have HB5 := Lib.hid hb5
  clear hb5
  go_wp2
  go_ret
  exact ⟨rfl, HB5.out⟩
end Go.Proofs.YtpaciildaanfbaaDoor
