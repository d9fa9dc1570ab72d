/-
  What the document's sum returns: a sum of 32 bytes, or that there are not as many; condition: the bytes can be read. It only makes memory of its own.
-/
import Derived.Test.YtemagoacjpilaaaNdSum
namespace Go.Proofs.Ytemagoacjpilaaa
open Go.RowKit
open Tlv (Nd)

def RSumPost (w : World) (v : List UInt8) (e : Ending) (w' : World) : Prop :=
  (v.length = 32 → e = .returned (.tuple #[.agg (bcells v), .bool true])) ∧ (v.length ≠ 32 → e = .returned (.tuple #[.agg (zb 32), .bool false])) ∧ Below w.heap.size w w'
def upto (v : List UInt8) (k : Nat) : List UInt8 := v.take k ++ List.replicate (32 - k) 0
theorem upto_zero (v : List UInt8) : bcells (upto v 0) = zb 32 := by simp [upto]; rfl
theorem upto_all {v : List UInt8} (h : v.length = 32) : upto v 32 = v := by simp [upto, List.take_of_length_le (Nat.le_of_eq h)]
theorem upto_len {v : List UInt8} (h : v.length = 32) (k : Nat) (hk : k ≤ 32) : (upto v k).length = 32 := by simp [upto, h]; omega
theorem upto_step {v : List UInt8} (h : v.length = 32) (k : Nat) (x : UInt8) (hx : v[k]? = some x) : (bcells (upto v k)).setIfInBounds k (V8 x) = bcells (upto v (k + 1)) := by
  have hk : k < 32 := by rw [← h]; exact (List.getElem?_eq_some_iff.1 hx).1
  have e : (upto v k).set k x = upto v (k + 1) := by
    unfold upto
    rw [List.set_append_right _ _ (by rw [List.length_take]; omega), List.length_take, Nat.min_eq_left (by omega), Nat.sub_self, show 32 - k = (32 - (k + 1)) + 1 by omega, List.replicate_succ, List.set_cons_zero, List.take_add_one, hx]
    simp
  rw [← e]
  unfold bcells
  rw [List.setIfInBounds_toArray, List.map_set]

set_option maxRecDepth 100000 in
theorem refSum_any (A : Option Addr) (n c : Nat) (v : List UInt8) (w : World) (hr : Rd w w.heap.size A n v) : Calls Try.prog 23 #[.slice A n c] w (RSumPost w v) := by
  have hz25 := zero25
  have hl := hr.len
  have hb1 : Below w.heap.size w ((w.alloc (.cells (zb 32) 25)).alloc (.cells (zb 32) 25)) := ((Below.refl _ _).alloc (Nat.le_refl _) _).alloc (by simp) _
  have hw0 := (Whole.made w 25 (zb 32)).alloc (.cells (zb 32) 25)
  have hw1 := Whole.made (w.alloc (.cells (zb 32) 25)) 25 (zb 32)
  rw [size_alloc] at hw1
  have HB := Lib.hid hb1
  have HW0 := Lib.hid hw0
  have HW1 := Lib.hid hw1
  have HR := Lib.hid hr
  have HL := Lib.hid hl
  clear hb1 hw0 hw1 hr
  by_cases h32 : n = 32
  · subst h32
    go_enter Try.func23, Try.ntmps23
    go_upto_region 2 with (fail)
    generalize (w.alloc (.cells (zb 32) 25)).alloc (.cells (zb 32) 25) = w1 at *
    go_upto_region 4 with (fail)
    go_wp2_with fail
    go_loopg [5] 32 (fun gk i wx => ∃ k : Nat, k + gk = 32 ∧ i = .int .i64 k ∧ Whole wx (w.heap.size + 1) 25 (bcells (upto v k)) ∧ Whole wx w.heap.size 25 (zb 32) ∧ Below w.heap.size w wx)
    case atStart => exact ⟨0, by omega, rfl, by rw [upto_zero]; exact HW1.out, HW0.out, HB.out⟩
    case round =>
      obtain ⟨k, hk, rfl, hwa, hwb, hbl⟩ := hrel
      have HA := Lib.hid hwa
      have HBB := Lib.hid hwb
      have HBL := Lib.hid hbl
      cases gk with
      | succ gn =>
        obtain ⟨b, o, rfl, hbb, hc⟩ := HR.out.2 (by omega)
        obtain ⟨x, hx⟩ : ∃ x, v[k]? = some x := ⟨_, List.getElem?_eq_getElem (by omega)⟩
        have hcell : wr.cell? ⟨b, o + k, none⟩ = some (.int .u8 x.toNat) := (hbl.cell (p := ⟨b, o + k, none⟩) hbb).trans (hc k _ (by rw [List.getElem?_map, hx]; rfl))
        obtain ⟨old, hst⟩ : ∃ old, wr.cell? ⟨w.heap.size + 1, k, none⟩ = some old := ⟨_, hwa.at_ (Array.getElem?_eq_getElem (by rw [bcells_size, upto_len hl k (by omega)]; omega))⟩
        have hfr := hwa.free k
        have hw2 := hwa.set k (V8 x)
        rw [upto_step hl k x hx] at hw2
        have hw3 := hwb.other (p := ⟨w.heap.size + 1, k, none⟩) (by show w.heap.size ≠ w.heap.size + 1; omega) (V8 x)
        have hb3 := hbl.setCell (p := ⟨w.heap.size + 1, k, none⟩) (by show w.heap.size ≤ w.heap.size + 1; omega) (V8 x)
        have HH := Lib.hid (And.intro hw2 (And.intro hw3 hb3))
        clear hwa hwb hbl hc hw2 hw3 hb3 HA HBB HBL hx
        go_wp2_with fail
        go_roundg gn
        case measure => omega
        case rel => exact ⟨k + 1, by omega, congrArg (Value.int .i64) (by omega), HH.out⟩
      | zero =>
        obtain rfl : k = 32 := by omega
        rw [upto_all HL.out] at hwa
        have hw2 := hwb.setAll (vs := bcells v) (by rw [zb_size, bcells_size, HL.out])
        have hb2 := below_setCells w w.heap.size (bcells v).toList 0 hbl (Nat.le_refl _)
        have HF := Lib.hid (And.intro hw2 hb2)
        have HT : Hid (wr.there w.heap.size 0 (bcells v).size) := Lib.hid (by rw [bcells_size, HL.out]; exact hwb.there_)
        have HI : Hid ((Try.prog.info? 25).map (·.size) = some (bcells v).size) := Lib.hid (by rw [bcells_size, HL.out]; exact info25)
        have HO := Lib.hid (bcells_one v)
        have HA2 := Lib.hid hwa
        clear hwa hwb hbl hw2 hb2 HA HBB HBL hl HW0 HW1 HB HR
        go_upto_region 8 with (fail)
        refine wp_region_lit ?_
        refine wpList_load_g rfl 25 (.tmp 4) rfl (w.heap.size + 1) rfl 25 (bcells v) _ HA2.out Try.underlying25 rfl HI.out ?_
        refine wpList_store_mid rfl 25 (.tmp 2) (.tmp 20) rfl w.heap.size 0 (bcells v) rfl rfl HT.out HI.out HO.out ?_
        generalize wr.setCells w.heap.size 0 (bcells v).toList = w5 at *
        go_wp2_with fail
        refine bodyPost_end (results_cell2 rfl _ _ _ _ _ rfl (load_whole HF.out.1 25 _ Try.underlying25 rfl HI.out)) rfl ?_
        exact ⟨fun _ => rfl, fun h => absurd HL.out h, HF.out.2⟩
  · have q2 : ((n : Int) != 32) = true := by simp; omega
    go_enter Try.func23, Try.ntmps23
    go_upto_region 2 with (fail)
    generalize (w.alloc (.cells (zb 32) 25)).alloc (.cells (zb 32) 25) = w1 at *
    have hw2 := HW0.out.setAll (vs := zb 32) rfl
    have hb2 := below_setCells w w.heap.size (zb 32).toList 0 HB.out (Nat.le_refl _)
    have HF := Lib.hid (And.intro hw2 hb2)
    clear hw2 hb2 hl HR
    go_upto_region 3 with (fail)
    refine wp_region_lit ?_
    refine wpList_load_g rfl 25 (.tmp 4) rfl (w.heap.size + 1) rfl 25 (zb 32) _ HW1.out Try.underlying25 rfl (by rw [zb_size]; exact info25) ?_
    refine wpList_store_mid rfl 25 (.tmp 2) (.tmp 9) rfl w.heap.size 0 (zb 32) rfl rfl HW0.out.there_ (by rw [zb_size]; exact info25) (bcells_one Tlv.nought) ?_
    generalize w1.setCells w.heap.size 0 (zb 32).toList = w5 at *
    go_wp2_with fail
    refine bodyPost_end (results_cell2 rfl _ _ _ _ _ rfl (load_whole HF.out.1 25 _ Try.underlying25 rfl (by rw [zb_size]; exact info25))) rfl ?_
    exact ⟨fun h => absurd (HL.out.symm.trans h) h32, fun _ => rfl, HF.out.2⟩
end Go.Proofs.Ytemagoacjpilaaa
