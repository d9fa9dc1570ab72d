/-
  The statements' fixed facts (chapter 1's two examples) come out true: condition: the table holds its words. It only makes memory of its own.
-/
import Derived.Test.YtceillnmcccckaaDoorShaSum
import Derived.Lib.SlBytesConst
namespace Go.Proofs.YtceillnmcccckaaDoor.Sh
open Go.RowKit

theorem sum_abc : ((Sha.sum [97, 98, 99]).getD 0 0, (Sha.sum [97, 98, 99]).getD 1 0, (Sha.sum [97, 98, 99]).getD 3 0) = (186, 120, 191) := by decide +kernel
theorem sum_nil : ((Sha.sum []).getD 0 0, (Sha.sum []).getD 1 0) = (227, 176) := by decide +kernel
theorem sum_length (bs : List UInt8) : (Sha.sum bs).length = 32 := Sha.outTo_length _ _

/-- Three bytes in a block of their own, handed over as the one part. -/
theorem parts_abc (w : World) (t1 t2 : TypeId) (fr : Nat × Nat) : Parts ((w.alloc (.cells #[.int .u8 97, .int .u8 98, .int .u8 99] t1 fr)).alloc (.cells #[.slice (some ⟨w.heap.size, 0, none⟩) 3 3] t2)) (some ⟨w.heap.size + 1, 0, none⟩) 1 [[97, 98, 99]] := by
  refine ⟨rfl, fun _ => ⟨w.heap.size + 1, 0, rfl, by simp, fun j l hl => ?_⟩⟩
  have hj : j < 1 := (List.getElem?_eq_some_iff.1 hl).1
  obtain rfl : j = 0 := by omega
  simp at hl
  subst hl
  have h2 := Whole.made (w.alloc (.cells #[.int .u8 97, .int .u8 98, .int .u8 99] t1 fr)) t2 #[.slice (some ⟨w.heap.size, 0, none⟩) 3 3]
  rw [show (w.alloc (.cells #[.int .u8 97, .int .u8 98, .int .u8 99] t1 fr)).heap.size = w.heap.size + 1 by simp] at h2
  have h1 : ((w.alloc (.cells #[.int .u8 97, .int .u8 98, .int .u8 99] t1 fr)).alloc (.cells #[.slice (some ⟨w.heap.size, 0, none⟩) 3 3] t2)).heap[w.heap.size]? = some (.cells #[.int .u8 97, .int .u8 98, .int .u8 99] t1 fr) :=
    (Below.heap_alloc _ _ _ (by simp)).trans (heap_alloc_last w _)
  refine ⟨some ⟨w.heap.size, 0, none⟩, 3, 3, h2.at_ rfl, by omega, by omega, rfl, fun _ => ⟨w.heap.size, 0, rfl, (Array.getElem?_eq_some_iff.1 h1).1, fun i v hv => ?_⟩⟩
  rw [Nat.zero_add, cell_of_row _ _ i _ _ _ h1]
  have hi : i < 3 := (List.getElem?_eq_some_iff.1 hv).1
  match i, hi with
  | 0, _ => simp at hv; subst hv; rfl
  | 1, _ => simp at hv; subst hv; rfl
  | 2, _ => simp at hv; subst hv; rfl
theorem Whole.setAll {w : World} {g : Nat} {t : TypeId} {cs vs : Array Value} (h : Whole w g t cs) (hl : cs.size = vs.size) : Whole (w.setCells g 0 vs.toList) g t vs := by
  have h1 : Whole w g t ([] ++ (cs.toList ++ [])).toArray := by simpa using h
  have := Whole.setCells vs.toList [] cs.toList [] h1 (by simpa using hl)
  simpa using this
theorem Whole.setOther {w : World} {g b : Nat} {t : TypeId} {cs : Array Value} (h : Whole w g t cs) (hb : g ≠ b) : ∀ (vs : List Value) (o : Nat), Whole (w.setCells b o vs) g t cs := by
  intro vs
  induction vs generalizing w with
  | nil => intro o; exact h
  | cons v r ih => intro o; exact ih (h.other (p := ⟨b, o, none⟩) hb v) (o + 1)
/-- Two sums laid into two new variables. -/
theorem two_sums (w : World) (Z A B : Array Value) (hZ : Z.size = 32) (hA : A.size = 32) (hB : B.size = 32) :
    Whole ((((w.alloc (.cells Z 49)).alloc (.cells Z 49)).setCells w.heap.size 0 A.toList).setCells (w.heap.size + 1) 0 B.toList) w.heap.size 49 A ∧
    Whole ((((w.alloc (.cells Z 49)).alloc (.cells Z 49)).setCells w.heap.size 0 A.toList).setCells (w.heap.size + 1) 0 B.toList) (w.heap.size + 1) 49 B ∧
    Below w.heap.size w ((((w.alloc (.cells Z 49)).alloc (.cells Z 49)).setCells w.heap.size 0 A.toList).setCells (w.heap.size + 1) 0 B.toList) ∧
    ((w.alloc (.cells Z 49)).alloc (.cells Z 49)).there w.heap.size 0 A.size ∧ (((w.alloc (.cells Z 49)).alloc (.cells Z 49)).setCells w.heap.size 0 A.toList).there (w.heap.size + 1) 0 B.size := by
  have h1 : Whole ((w.alloc (.cells Z 49)).alloc (.cells Z 49)) w.heap.size 49 Z := (Whole.made w 49 Z).alloc _
  have h2 : Whole ((w.alloc (.cells Z 49)).alloc (.cells Z 49)) (w.heap.size + 1) 49 Z := by
    have := Whole.made (w.alloc (.cells Z 49)) 49 Z
    rwa [show (w.alloc (.cells Z 49)).heap.size = w.heap.size + 1 by simp] at this
  have h3 := h1.setAll (vs := A) (by omega)
  have h4 := h2.setOther (b := w.heap.size) (by omega) A.toList 0
  refine ⟨h3.setOther (by omega) _ _, h4.setAll (by omega), below_setCells _ _ _ _ (below_setCells _ _ _ _ (((Below.refl _ _).alloc (Nat.le_refl _) _).alloc (by simp) _) (Nat.le_refl _)) (by omega), ?_, ?_⟩
  · have := h1.there_; rwa [hZ, ← hA] at this
  · have := h4.there_; rwa [hZ, ← hB] at this
theorem parts_none (w : World) (A : Option Addr) : Parts w A 0 [] := ⟨rfl, fun h => absurd h (by omega)⟩

theorem sum_as (A : Option Addr) (n c : Nat) (ls : List (List UInt8)) (bs : List UInt8) (hbs : ls.flatten = bs) (w : World) (hP : Parts w A n ls) (hn : n ≤ 140737488355328) (ht : Tab w 1) (hw : 1 < w.heap.size) :
    Calls Tryd.prog 54 #[.slice A n c] w fun e w' => e = .returned (.agg (bcells (Sha.sum bs))) ∧ Below w.heap.size w w' := by
  subst hbs
  exact sum_any A n c ls w hP hn ht hw

end Go.Proofs.YtceillnmcccckaaDoor.Sh
