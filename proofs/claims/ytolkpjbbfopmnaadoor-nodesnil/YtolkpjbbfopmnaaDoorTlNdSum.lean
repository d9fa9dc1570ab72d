/-
  What sum and height return: a sum of 32 bytes; a height, any above 64 as 65; condition: the bytes can be read. They only make memory of their own.
-/
import Derived.Test.YtolkpjbbfopmnaaDoorTlNdMem
import Derived.Test.YtolkpjbbfopmnaaDoorTlVal
namespace Go.Proofs.YtolkpjbbfopmnaaDoor.Tl
open Go.RowKit
open Tlv (Nd)

def SumPost (w : World) (v : List UInt8) (e : Ending) (w' : World) : Prop :=
  (v.length = 32 → e = .returned (.tuple #[.agg (bcells v), .int .i64 0])) ∧ (v.length ≠ 32 → e = .returned (.tuple #[.agg (zb 32), .int .i64 7])) ∧ Below w.heap.size w w'
set_option maxRecDepth 100000 in
theorem sum_any (A : Option Addr) (n c : Nat) (v : List UInt8) (w : World) (hr : Rd w w.heap.size A n v) (hnc : n ≤ c) : Calls Tryd.prog 72 #[.slice A n c] w (SumPost w v) := by
  have hz25 := zero25
  have hl := hr.len
  have hb : Below w.heap.size w (w.alloc (.cells (zb 32) 29)) := (Below.refl _ _).alloc (Nat.le_refl _) _
  by_cases h32 : n = 32
  · subst h32
    obtain ⟨b, o, rfl, hbb, hc⟩ := hr.2 (by omega)
    have hrange : (w.alloc (.cells (zb 32) 29)).rangeAt b o (v.map V8) := fun j u hu => by
      rw [hb.cell (p := ⟨b, o + j, none⟩) hbb]; exact hc j u hu
    have HR := Lib.hid hrange
    have HB := Lib.hid hb
    have HL := Lib.hid hl
    have hat : ∀ w, (Instr.arrayAt 29 (.slice (some ⟨b, o, none⟩) 32 c)).run Tryd.prog w = .ok (.pointer (some ⟨b, o, none⟩)) w := fun w => by simp [Instr.arrayAt, run_underlying Tryd.underlying29]
    have hw := Whole.made w 29 (zb 32)
    have HW := Lib.hid hw
    have hlt : w.heap.size < (w.alloc (.cells (zb 32) 29)).heap.size := by simp
    clear hr hrange hb hl hc hw
    go_enter Tryd.func72, Tryd.ntmps72
    go_upto_region 3 with (fail)
    refine wp_region_lit ?_
    iterate 6 go_step
    refine wpList_load_mid rfl 29 (.tmp 9) rfl b o rfl _ _ HR.out Tryd.underlying29 rfl (by rw [List.length_map, HL.out]; exact info25) ?_
    refine wpList_store_mid rfl 29 (.tmp 2) (.tmp 10) rfl w.heap.size 0 (bcells v) rfl rfl ?_ ?_ (bcells_one v) ?_
    · rw [bcells_size, HL.out]; have := HW.out.there_; rw [zb_size] at this; exact this
    · rw [bcells_size, HL.out]; exact info25
    have hw2 := HW.out.setAll (vs := bcells v) (by rw [zb_size, bcells_size, HL.out])
    have hb2 : Below w.heap.size w ((w.alloc (.cells (zb 32) 29)).setCells w.heap.size 0 (bcells v).toList) := below_setCells w w.heap.size _ 0 HB.out (Nat.le_refl _)
    generalize (w.alloc (.cells (zb 32) 29)).setCells w.heap.size 0 (bcells v).toList = w2 at *
    have HH := Lib.hid (And.intro hw2 hb2)
    clear hw2 hb2 HB HW HR hlt
    go_wp2_with fail
    refine bodyPost_end (results_cell2 rfl _ _ _ _ _ rfl (load_whole HH.out.1 29 _ Tryd.underlying29 rfl (by rw [bcells_size, HL.out]; exact info25))) rfl ?_
    exact ⟨fun _ => rfl, fun h => absurd HL.out h, HH.out.2⟩
  · have hw := Whole.made w 29 (zb 32)
    have HW := Lib.hid hw
    have HB := Lib.hid hb
    have HL := Lib.hid hl
    have q1 : decide ((n : Int) = 32) = false := by simp; omega
    have q2 : ((n : Int) != 32) = true := by simp; omega
    clear hr hb hl hw
    go_enter Tryd.func72, Tryd.ntmps72
    go_upto_region 2 with (fail)
    refine wp_region_lit ?_
    iterate 3 go_step
    refine wpList_store_mid rfl 29 (.tmp 2) (.tmp 7) rfl w.heap.size 0 (zb 32) rfl rfl ?_ ?_ (bcells_one Tlv.nought) ?_
    · have := HW.out.there_; exact this
    · rw [zb_size]; exact info25
    have hw2 := HW.out.setAll (vs := zb 32) rfl
    have hb2 : Below w.heap.size w ((w.alloc (.cells (zb 32) 29)).setCells w.heap.size 0 (zb 32).toList) := below_setCells w w.heap.size _ 0 HB.out (Nat.le_refl _)
    generalize (w.alloc (.cells (zb 32) 29)).setCells w.heap.size 0 (zb 32).toList = w2 at *
    have HH := Lib.hid (And.intro hw2 hb2)
    clear hw2 hb2 HB HW
    go_wp2_with fail
    refine bodyPost_end (results_cell2 rfl _ _ _ _ _ rfl (load_whole HH.out.1 29 _ Tryd.underlying29 rfl (by rw [zb_size]; exact info25))) rfl ?_
    exact ⟨fun h => absurd (HL.out.symm.trans h) h32, fun _ => rfl, HH.out.2⟩

def HighPost (w : World) (v : List UInt8) (e : Ending) (w' : World) : Prop :=
  (Tlv.okb v = true → e = .returned (.tuple #[.int .i64 ((min (Tlv.val v) 65 : Nat) : Int), .int .i64 0])) ∧ (Tlv.okb v = false → ∃ z : Int, e = .returned (.tuple #[.int .i64 z, .int .i64 7])) ∧ w = w'
set_option maxRecDepth 100000 in
theorem height_any (A : Option Addr) (n c : Nat) (v : List UInt8) (w : World) (hr : Rd w w.heap.size A n v) : Calls Tryd.prog 70 #[.slice A n c] w (HighPost w v) := by
  cases hk : Tlv.okb v with
  | true =>
    have hok : okv v := (Tlv.okb_iff v).1 hk
    have HV := Lib.hid (value_good A n c v w _ hr hok)
    have hlt := Tlv.val_fit v hok.1
    obtain ⟨x, hx⟩ : ∃ x, Tlv.val v = x := ⟨_, rfl⟩
    rw [hx] at HV hlt
    have HX := Lib.hid hx
    have HK := Lib.hid hk
    clear hr hok hx hk
    have hmin : ((min x 65 : Nat) : Int) = min (x : Int) 65 := by omega
    go_enter Tryd.func70, Tryd.ntmps70
    go_wp2_with fail
    refine HV.out.mono ?_
    rintro e w1 ⟨rfl, rfl⟩
    go_wp2_with fail
    go_ret2
    exact ⟨fun _ => by rw [HX.out, hmin]; rfl, fun h => absurd HK.out (by rw [h]; simp), rfl⟩
  | false =>
    have hok : ¬ okv v := fun h => by have := (Tlv.okb_iff v).2 h; rw [hk] at this; simp at this
    have HV := Lib.hid (value_bad A n c v w _ hr hok)
    have HK := Lib.hid hk
    clear hr hok hk
    go_enter Tryd.func70, Tryd.ntmps70
    go_wp2_with fail
    refine HV.out.mono ?_
    rintro e w1 ⟨rfl, rfl⟩
    go_wp2_with fail
    go_ret2
    exact ⟨fun h => absurd HK.out (by rw [h]; simp), fun _ => ⟨_, rfl⟩, rfl⟩
end Go.Proofs.YtolkpjbbfopmnaaDoor.Tl
