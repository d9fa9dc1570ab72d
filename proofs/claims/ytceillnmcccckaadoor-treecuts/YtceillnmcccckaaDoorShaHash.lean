/-
  What the digest's method hash returns: the eight words as 32 bytes, the greater byte first; condition: the digest lies whole in its block. It only makes memory of its own.
-/
import Derived.Test.YtceillnmcccckaaDoorShaPad
namespace Go.Proofs.YtceillnmcccckaaDoor.Sh
open Go.RowKit
namespace Sha
def b24 (x : UInt32) : UInt8 := (x >>> 24).toUInt8
def b16 (x : UInt32) : UInt8 := (x >>> 16).toUInt8
def b8 (x : UInt32) : UInt8 := (x >>> 8).toUInt8
def b0 (x : UInt32) : UInt8 := x.toUInt8
def outTo (l : List UInt32) : Nat → List UInt8
  | 0 => List.replicate 32 0
  | k + 1 => ((((outTo l k).set (4 * k) (b24 (l.getD k 0))).set (4 * k + 1) (b16 (l.getD k 0))).set (4 * k + 2) (b8 (l.getD k 0))).set (4 * k + 3) (b0 (l.getD k 0))
theorem outTo_length (l : List UInt32) (k : Nat) : (outTo l k).length = 32 := by
  induction k with
  | zero => rfl
  | succ k ih => simp [outTo, ih]
def out (s : St) : List UInt8 := outTo s.list 8
theorem byte_shr (x : UInt32) (n : Nat) (h : n < 32) : IntKind.u8.wrap ((x.toNat : Int) / 2 ^ n) = ((x >>> UInt32.ofNat n).toUInt8.toNat : Int) := by
  rw [IntKind.wrap_u8', shr_u32 x n h, UInt32.toNat_toUInt8]
  omega
theorem byte24 (x : UInt32) : IntKind.u8.wrap ((x.toNat : Int) / 16777216) = ((b24 x).toNat : Int) := byte_shr x 24 (by omega)
theorem byte16 (x : UInt32) : IntKind.u8.wrap ((x.toNat : Int) / 65536) = ((b16 x).toNat : Int) := byte_shr x 16 (by omega)
theorem byte8 (x : UInt32) : IntKind.u8.wrap ((x.toNat : Int) / 256) = ((b8 x).toNat : Int) := byte_shr x 8 (by omega)
theorem byte0 (x : UInt32) : IntKind.u8.wrap (x.toNat : Int) = ((b0 x).toNat : Int) := by
  rw [IntKind.wrap_u8', b0, UInt32.toNat_toUInt8]; omega
end Sha
theorem info25 : (Tryd.prog.info? 49).map (·.size) = some 32 := by kernel_rfl

structure HRel (w : World) (l : List UInt32) (k : Nat) (wx : World) : Prop where
  res : Whole wx w.heap.size 49 (bcells (List.replicate 32 0))
  out : Whole wx (w.heap.size + 1) 49 (bcells (Sha.outTo l k))
  bel : Below w.heap.size w wx

theorem hrel_start (w : World) (l : List UInt32) (Z : Array Value) (hZ : Z = bcells (List.replicate 32 0)) : HRel w l 0 ((w.alloc (.cells Z 49)).alloc (.cells Z 49)) := by
  subst hZ
  refine ⟨(Whole.made _ _ _).alloc _, ?_, ((Below.refl _ _).alloc (by simp) _).alloc (by simp) _⟩
  have := Whole.made (w.alloc (.cells (bcells (List.replicate 32 0)) 49)) 49 (bcells (List.replicate 32 0))
  rw [show (w.alloc (.cells (bcells (List.replicate 32 0)) 49)).heap.size = w.heap.size + 1 by simp] at this
  exact this
theorem hrel_step (w wx : World) (l : List UInt32) (k : Nat) (h : HRel w l k wx) :
    HRel w l (k + 1) ((((wx.setCell ⟨w.heap.size + 1, 4 * k, none⟩ (.int .u8 (Sha.b24 (l.getD k 0)).toNat)).setCell ⟨w.heap.size + 1, 4 * k + 1, none⟩ (.int .u8 (Sha.b16 (l.getD k 0)).toNat)).setCell
      ⟨w.heap.size + 1, 4 * k + 2, none⟩ (.int .u8 (Sha.b8 (l.getD k 0)).toNat)).setCell ⟨w.heap.size + 1, 4 * k + 3, none⟩ (.int .u8 (Sha.b0 (l.getD k 0)).toNat)) := by
  have hne : w.heap.size ≠ w.heap.size + 1 := by omega
  refine ⟨(((h.res.other hne _).other hne _).other hne _).other hne _, ?_, (((h.bel.setCell (by show _ ≤ w.heap.size + 1; omega) _).setCell (by show _ ≤ w.heap.size + 1; omega) _).setCell (by show _ ≤ w.heap.size + 1; omega) _).setCell (by show _ ≤ w.heap.size + 1; omega) _⟩
  have := (((h.out.set (4 * k) (.int .u8 (Sha.b24 (l.getD k 0)).toNat)).set (4 * k + 1) (.int .u8 (Sha.b16 (l.getD k 0)).toNat)).set (4 * k + 2) (.int .u8 (Sha.b8 (l.getD k 0)).toNat)).set (4 * k + 3) (.int .u8 (Sha.b0 (l.getD k 0)).toNat)
  rw [bcells_set, bcells_set, bcells_set, bcells_set] at this
  exact this

set_option maxRecDepth 100000 in
set_option maxHeartbeats 1000000 in
theorem hash_any (g : Nat) (D : Sha.Dg) (w : World) (hD : Whole w g 108 (dcells D)) :
    Calls Tryd.prog 66 #[.pointer (some ⟨g, 0, none⟩)] w fun e w' => e = .returned (.agg (bcells (Sha.out D.s))) ∧ Below w.heap.size w w' := by
  have HD := Lib.hid hD
  clear hD
  go_enter Tryd.func66, Tryd.ntmps66
  go_upto_region 2 with (fail)
  have hs := hrel_start w D.s.list _ rfl
  have hd2 : Whole ((w.alloc (.cells (bcells (List.replicate 32 0)) 49)).alloc (.cells (bcells (List.replicate 32 0)) 49)) g 108 (dcells D) := (HD.out.alloc _).alloc _
  rw [show bcells (List.replicate 32 0) = #[Value.int .u8 0, .int .u8 0, .int .u8 0, .int .u8 0, .int .u8 0, .int .u8 0, .int .u8 0, .int .u8 0, .int .u8 0, .int .u8 0, .int .u8 0, .int .u8 0, .int .u8 0, .int .u8 0, .int .u8 0, .int .u8 0, .int .u8 0, .int .u8 0, .int .u8 0, .int .u8 0, .int .u8 0, .int .u8 0, .int .u8 0, .int .u8 0, .int .u8 0, .int .u8 0, .int .u8 0, .int .u8 0, .int .u8 0, .int .u8 0, .int .u8 0, .int .u8 0] from rfl] at hd2 hs
  generalize (w.alloc (.cells _ 49)).alloc (.cells _ 49) = w2 at hs hd2 ⊢
  have HS := Lib.hid hs
  have HR := Lib.hid (range_words _ _ _ _ hd2)
  clear hs hd2
  refine wp_region_lit ?_
  iterate 9 go_step
  refine wpList_load_mid rfl 105 (.tmp 8) rfl g 0 ?_ (D.s.list.map V32) (.array 8 96) HR.out Tryd.underlying105 rfl info35 ?_
  · rfl
  rw [← wcells_V]
  go_wp2_with fail
  go_loopw [10] (fun i wx => ∃ k : Nat, k ≤ 8 ∧ i = .int .i64 k ∧ HRel w D.s.list k wx) (fun i _ => 8 - (intOf i).toNat)
  case atStart => exact ⟨0, by omega, rfl, HS.out⟩
  case round =>
    clear HS HR
    obtain ⟨k, hk, rfl, hrel⟩ := hrel
    by_cases hlt : k < 8
    · have c0 := hrel.out.at_ (bcells_at _ (4 * k) (by rw [Sha.outTo_length]; omega))
      have c1 := hrel.out.at_ (bcells_at _ (4 * k + 1) (by rw [Sha.outTo_length]; omega))
      have c2 := hrel.out.at_ (bcells_at _ (4 * k + 2) (by rw [Sha.outTo_length]; omega))
      have c3 := hrel.out.at_ (bcells_at _ (4 * k + 3) (by rw [Sha.outTo_length]; omega))
      have f0 := hrel.out.free (4 * k)
      have f1 := hrel.out.free (4 * k + 1)
      have f2 := hrel.out.free (4 * k + 2)
      have f3 := hrel.out.free (4 * k + 3)
      have hix : (wcells D.s.list)[k]? = some (.int .u32 (D.s.list.getD k 0).toNat) := wcells_at _ k hlt
      have H := Lib.hid (hrel_step w wr D.s.list k hrel)
      clear hrel
      generalize D.s.list.getD k 0 = y at *
      generalize wcells D.s.list = R at *
      have hrun := run_index35 R k y.toNat hlt hix
      clear hix
      have e24 := Sha.byte24 y
      have e16 := Sha.byte16 y
      have e8 := Sha.byte8 y
      have e0 := Sha.byte0 y
      generalize Sha.b24 y = v24 at *
      generalize Sha.b16 y = v16 at *
      generalize Sha.b8 y = v8 at *
      generalize Sha.b0 y = v0 at *
      have k8 : (k : Int) < 8 := by omega
      go_wp2_with fail
      go_roundw
      case rel => exact ⟨k + 1, by omega, by go_num, H.out⟩
      case measure => simp [intOf]; omega
    · obtain rfl : k = 8 := by omega
      have hlen : (bcells (Sha.outTo D.s.list 8)).size = 32 := by rw [bcells_size, Sha.outTo_length]
      have hi : (Tryd.prog.info? 49).map (·.size) = some (bcells (Sha.outTo D.s.list 8)).toList.length := by rw [Array.length_toList, hlen]; exact info25
      have hth : wr.there w.heap.size 0 (bcells (Sha.outTo D.s.list 8)).size := by
        have := hrel.res.there_
        rwa [bcells_size, List.length_replicate, ← hlen] at this
      have hone := bcells_one (Sha.outTo D.s.list 8)
      have hlo := hrel.out.range
      have hbel := hrel.bel
      have hS : bcells (Sha.out D.s) = bcells (Sha.outTo D.s.list 8) := rfl
      have HS := Lib.hid hS
      clear hrel hS
      generalize bcells (Sha.outTo D.s.list 8) = W at *
      have HI := Lib.hid hi
      have HLO := Lib.hid hlo
      have HTH := Lib.hid hth
      have HONE := Lib.hid hone
      clear hi hlen hth hlo hone
      go_upto_region 10 with (fail)
      refine wp_region_lit ?_
      refine wpList_load_mid rfl 49 (.tmp 3) rfl (w.heap.size + 1) 0 ?_ W.toList (.array 32 5) HLO.out Tryd.underlying49 rfl HI.out ?_
      · rfl
      rw [Array.toArray_toList]
      refine wpList_store_mid rfl 49 (.tmp 2) (.tmp 41) rfl w.heap.size 0 W ?_ ?_ HTH.out ?_ HONE.out ?_
      · rfl
      · rfl
      · rw [HI.out, Array.length_toList]
      go_wp2_with fail
      refine bodyPost_ret (v := .agg W) ?_ rfl ⟨by rw [HS.out], below_setCells _ _ _ _ hbel (Nat.le_refl _)⟩
      rw [results_cell1 (p := 2) (ty := 49) Tryd.results66]
      have hr : (loadVar 49 ⟨w.heap.size, 0, none⟩).run Tryd.prog (wr.setCells w.heap.size 0 W.toList) = .ok (.agg W.toList.toArray) _ :=
        run_loadVar_mid _ w.heap.size 0 49 W.toList (.array 32 5) (World.rangeAt_setCells_same _ _ _ _ (by rw [Array.length_toList]; exact HTH.out)) Tryd.underlying49 rfl HI.out
      rw [Array.toArray_toList] at hr
      exact hr
end Go.Proofs.YtceillnmcccckaaDoor.Sh
