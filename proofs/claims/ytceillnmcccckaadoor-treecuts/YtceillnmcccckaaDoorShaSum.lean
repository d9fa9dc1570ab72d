/-
  What sha.Sum returns: the sum of the bytes of all parts, one behind the other; conditions: the parts are read, and the table holds its words. It only makes memory of its own.
-/
import Derived.Test.YtceillnmcccckaaDoorShaStart
namespace Go.Proofs.YtceillnmcccckaaDoor.Sh
open Go.RowKit

/-- The sum of bytes. -/
def Sha.sum (bs : List UInt8) : List UInt8 := Sha.out (Sha.dg0.pushAll (bs ++ Sha.padding bs.length (UInt64.ofNat bs.length * 8))).s

/-- The slice with address A and n elements reads as the bytes bs. -/
def Reads (w : World) (A : Option Addr) (n : Nat) (bs : List UInt8) : Prop :=
  bs.length = n ∧ (0 < n → ∃ b o, A = some ⟨b, o, none⟩ ∧ b < w.heap.size ∧ ∀ j v, bs[j]? = some v → w.cell? ⟨b, o + j, none⟩ = some (V8 v))
/-- The slice with address A and n elements holds slices that read as the lists ls. -/
def Parts (w : World) (A : Option Addr) (n : Nat) (ls : List (List UInt8)) : Prop :=
  ls.length = n ∧ (0 < n → ∃ b o, A = some ⟨b, o, none⟩ ∧ b < w.heap.size ∧
    ∀ j l, ls[j]? = some l → ∃ A' n' c', w.cell? ⟨b, o + j, none⟩ = some (.slice A' n' c') ∧ n' ≤ c' ∧ n' ≤ 140737488355328 ∧ Reads w A' n' l)

theorem Reads.below {w w' : World} {A : Option Addr} {n : Nat} {bs : List UInt8} (h : Reads w A n bs) (hb : Below w.heap.size w w') : Reads w' A n bs :=
  ⟨h.1, fun hn => by
    obtain ⟨b, o, h1, h2, h3⟩ := h.2 hn
    exact ⟨b, o, h1, Nat.lt_of_lt_of_le h2 hb.size, fun j v hv => by rw [hb.cell (p := ⟨b, o + j, none⟩) h2]; exact h3 j v hv⟩⟩
theorem Reads.bytes {w w' : World} {A : Option Addr} {n g : Nat} {bs : List UInt8} (h : Reads w A n bs) (hb : Below w.heap.size w w') (hg : w.heap.size ≤ g) : Bytes w' g A n bs :=
  ⟨h.1, fun hn => by
    obtain ⟨b, o, h1, h2, h3⟩ := h.2 hn
    exact ⟨b, o, h1, by omega, Nat.lt_of_lt_of_le h2 hb.size, fun j v hv => by rw [hb.cell (p := ⟨b, o + j, none⟩) h2]; exact h3 j v hv⟩⟩
theorem Parts.below {w w' : World} {A : Option Addr} {n : Nat} {ls : List (List UInt8)} (h : Parts w A n ls) (hb : Below w.heap.size w w') : Parts w' A n ls :=
  ⟨h.1, fun hn => by
    obtain ⟨b, o, h1, h2, h3⟩ := h.2 hn
    exact ⟨b, o, h1, Nat.lt_of_lt_of_le h2 hb.size, fun j l hl => by
      obtain ⟨A', n', c', k1, k2, k3, k4⟩ := h3 j l hl
      exact ⟨A', n', c', by rw [hb.cell (p := ⟨b, o + j, none⟩) h2]; exact k1, k2, k3, k4.below hb⟩⟩⟩
theorem tab_below {w w' : World} (h : Tab w 1) (hb : Below w.heap.size w w') (hw : 1 < w.heap.size) : Tab w' 1 := fun j hj => by
  rw [hb.cell (p := ⟨1, j, none⟩) hw]; exact h j hj

theorem dg0_ok : Sha.dg0.ok := ⟨rfl, by show 0 < 64; omega⟩
theorem ofNat_add64 (a b : Nat) : UInt64.ofNat a + UInt64.ofNat b = UInt64.ofNat (a + b) := by
  rw [UInt64.ofNat_add]

/-- How it stands behind k parts. -/
structure SumRel (w : World) (M : Nat) (ls : List (List UInt8)) (k : Nat) (wx : World) : Prop where
  dig : Whole wx M 108 (dcells ((Sha.dg0.pushAll (ls.take k).flatten).relen (UInt64.ofNat (ls.take k).flatten.length)))
  res : Whole wx w.heap.size 49 (bcells (List.replicate 32 0))
  low : w.heap.size < M
  bel : Below w.heap.size w wx

theorem sumrel_start (w w1 : World) (ls : List (List UInt8)) (Z : Array Value) (hZ : Z = bcells (List.replicate 32 0)) (hb : Below (w.alloc (.cells Z 49)).heap.size (w.alloc (.cells Z 49)) w1) :
    SumRel w w1.heap.size ls 0 (w1.alloc (.cells (dcells Sha.dg0) 108)) := by
  subst hZ
  have hs : (w.alloc (.cells (bcells (List.replicate 32 0)) 49)).heap.size = w.heap.size + 1 := by simp
  have hs1 := hb.size
  have hbel : Below w.heap.size w w1 := ((Below.refl _ _).alloc (Nat.le_refl _) _).trans (hb.mono (by omega))
  exact ⟨Whole.made _ _ _, ((Whole.made w 49 _).below hb (by omega)).alloc _, by omega, hbel.alloc (by omega) _⟩
theorem take_flatten (ls : List (List UInt8)) (k : Nat) (l : List UInt8) (h : ls[k]? = some l) : (ls.take (k + 1)).flatten = (ls.take k).flatten ++ l := by
  rw [List.take_add_one, h]
  simp
theorem sumrel_step {w wx w' : World} {M k : Nat} {ls : List (List UInt8)} {l : List UInt8} (h : SumRel w M ls k wx) (hl : ls[k]? = some l)
    (h1 : Whole w' M 108 (dcells (((Sha.dg0.pushAll (ls.take k).flatten).relen (UInt64.ofNat (ls.take k).flatten.length)).add l))) (h2 : wx.grownBy w' (some M)) : SumRel w M ls (k + 1) w' := by
  have hlow := h.low
  refine ⟨?_, (h2.block _ h.res.lt (fun e => by injection e with e; omega)).trans h.res, h.low, ?_⟩
  · rw [take_flatten ls k l hl, List.length_append, ← ofNat_add64, Sha.Dg.pushAll_append]
    rw [Sha.Dg.add_eq, Sha.Dg.pushAll_relen] at h1
    exact h1
  · exact ⟨h2.os.trans h.bel.os, h2.tape.trans h.bel.tape, h2.output.trans h.bel.output, Nat.le_trans h.bel.size h2.size, fun i hi => (h2.block i (Nat.lt_of_lt_of_le hi h.bel.size) (fun e => by injection e with e; omega)).trans (h.bel.block i hi)⟩
theorem padding_mod (n : Nat) (L : UInt64) : Sha.padding (n % 64) L = Sha.padding n L := by
  unfold Sha.padding Sha.zeros
  rw [Nat.mod_mod]

theorem sum_final (bs : List UInt8) (x : UInt64) :
    Sha.out ((((Sha.dg0.pushAll bs).relen (UInt64.ofNat bs.length)).pushAll (Sha.padding ((Sha.dg0.pushAll bs).relen (UInt64.ofNat bs.length)).n (((Sha.dg0.pushAll bs).relen (UInt64.ofNat bs.length)).len * 8))).relen x).s = Sha.sum bs := by
  have hn : ((Sha.dg0.pushAll bs).relen (UInt64.ofNat bs.length)).n = bs.length % 64 := by
    show (Sha.dg0.pushAll bs).n = _
    rw [Sha.Dg.pushAll_n _ _ dg0_ok]
    show (0 + bs.length) % 64 = _
    rw [Nat.zero_add]
  have hlen : ((Sha.dg0.pushAll bs).relen (UInt64.ofNat bs.length)).len = UInt64.ofNat bs.length := rfl
  rw [hn, hlen, padding_mod, Sha.Dg.pushAll_relen, ← Sha.Dg.pushAll_append]
  rfl
set_option maxRecDepth 100000 in
set_option maxHeartbeats 1000000 in
theorem sum_any (A : Option Addr) (n c : Nat) (ls : List (List UInt8)) (w : World) (hP : Parts w A n ls) (hn : n ≤ 140737488355328) (ht : Tab w 1) (hw : 1 < w.heap.size) :
    Calls Tryd.prog 54 #[.slice A n c] w fun e w' => e = .returned (.agg (bcells (Sha.sum ls.flatten))) ∧ Below w.heap.size w w' := by
  have HP := Lib.hid hP
  have HT := Lib.hid ht
  clear hP ht
  have hz := zero39
  go_enter Tryd.func54, Tryd.ntmps54
  go_wp2_with fail
  refine (start_any _).mono ?_
  rintro e w1 ⟨rfl, hb1⟩
  simp only []
  iterate 4 go_step
  have hs := sumrel_start w w1 ls _ rfl hb1
  have hM := hs.low
  clear hb1
  refine wpList_store_made rfl 108 (.tmp 3) (.tmp 6) rfl zd (dcells Sha.dg0) ?_ ?_ ?_ ?_ (by kernel_rfl) ?_
  · rfl
  · rfl
  · rw [show (dcells Sha.dg0).size = 74 by kernel_rfl]; exact info39
  · kernel_rfl
  generalize w1.alloc (.cells (dcells Sha.dg0) 108) = w2 at *
  generalize w1.heap.size = M at *
  have HS := Lib.hid hs
  clear hs hz
  go_wp2_with fail
  go_loopw [9] (fun i wx => ∃ k : Nat, k ≤ n ∧ i = .int .i64 k ∧ SumRel w M ls k wx) (fun i _ => n - (intOf i).toNat)
  case atStart => exact ⟨0, by omega, rfl, HS.out⟩
  case round =>
    clear HS
    obtain ⟨k, hk, rfl, hrel⟩ := hrel
    have hok := Sha.Dg.ok_relen (Sha.Dg.ok_pushAll dg0_ok (ls.take k).flatten) (UInt64.ofNat (ls.take k).flatten.length)
    have hM1 : 1 ≠ M := by omega
    have ht2 := tab_below HT.out hrel.bel hw
    have hw2 : 1 < wr.heap.size := by have := hrel.bel.size; omega
    have HOK := Lib.hid hok
    have HT2 := Lib.hid ht2
    clear hok ht2
    by_cases hlt : k < n
    · obtain ⟨b, o, rfl, hb, hall⟩ := HP.out.2 (by omega)
      obtain ⟨l, hl⟩ : ∃ l, ls[k]? = some l := ⟨ls[k]'(by rw [HP.out.1]; exact hlt), List.getElem?_eq_getElem _⟩
      obtain ⟨A', n', c', hc, hnc, hcc, hr⟩ := hall k l hl
      have hc2 := (hrel.bel.cell (p := ⟨b, o + k, none⟩) hb).trans hc
      have HB := Lib.hid (hr.bytes hrel.bel (g := M) (by omega))
      have HREL := Lib.hid hrel
      have HLL := Lib.hid hl
      clear hrel hl hc hr hall
      go_wp2_with fail
      refine (add_any M _ HOK.out A' n' c' l _ HREL.out.dig HB.out hnc hcc HT2.out hw2 hM1).mono ?_
      rintro e w3 ⟨rfl, h3⟩
      go_wp2_with fail
      go_roundw
      case rel => exact ⟨k + 1, by omega, by go_num, sumrel_step HREL.out HLL.out h3.1 h3.2⟩
      case measure => simp [intOf]; omega
    · obtain rfl : k = n := by omega
      have htk : ls.take k = ls := List.take_of_length_le (by rw [HP.out.1]; exact Nat.le_refl _)
      have hdig := hrel.dig
      rw [htk] at hdig HOK
      clear htk
      have HDIG := Lib.hid hdig
      have HREL := Lib.hid hrel
      clear hrel hdig
      go_wp2_with fail
      refine (pad_any M _ HOK.out _ HDIG.out HT2.out hw2 hM1).mono ?_
      rintro e w3 ⟨rfl, x, h3, hg3⟩
      have HG3 := Lib.hid hg3
      clear hg3
      go_wp2_with fail
      refine (hash_any M _ _ h3).mono ?_
      rintro e w4 ⟨rfl, hb4⟩
      rw [sum_final] 
      have hres : Whole w4 w.heap.size 49 (bcells (List.replicate 32 0)) := by
        have h5 : Whole w3 w.heap.size 49 (bcells (List.replicate 32 0)) := (HG3.out.block _ HREL.out.res.lt (fun e => by injection e with e; omega)).trans HREL.out.res
        exact h5.below hb4 h5.lt
      have hbel : Below w.heap.size w w4 := by
        have h6 : Below w.heap.size w w3 := ⟨HG3.out.os.trans HREL.out.bel.os, HG3.out.tape.trans HREL.out.bel.tape, HG3.out.output.trans HREL.out.bel.output, Nat.le_trans HREL.out.bel.size HG3.out.size,
          fun i hi => (HG3.out.block i (Nat.lt_of_lt_of_le hi HREL.out.bel.size) (fun e => by injection e with e; omega)).trans (HREL.out.bel.block i hi)⟩
        exact h6.trans (hb4.mono h6.size)
      have hlen : (bcells (Sha.sum ls.flatten)).size = 32 := by rw [bcells_size]; exact Sha.outTo_length _ _
      have hone := bcells_one (Sha.sum ls.flatten)
      have hth : w4.there w.heap.size 0 (bcells (Sha.sum ls.flatten)).size := by
        have := hres.there_
        rwa [bcells_size, List.length_replicate, ← hlen] at this
      clear h3 hb4 HG3 HREL HDIG HT2 HOK hres
      generalize hW : bcells (Sha.sum ls.flatten) = W at *
      have HW := Lib.hid hW
      have HTH := Lib.hid hth
      have HONE := Lib.hid hone
      have HLEN := Lib.hid hlen
      clear hW hth hone hlen
      simp only []
      go_step
      refine wpList_store_mid rfl 49 (.tmp 2) (.tmp 17) rfl w.heap.size 0 W ?_ ?_ HTH.out ?_ HONE.out ?_
      · rfl
      · rfl
      · rw [HLEN.out]; exact info25
      go_wp2_with fail
      refine bodyPost_ret (v := .agg W) ?_ rfl ⟨by rw [HW.out], below_setCells _ _ _ _ hbel (Nat.le_refl _)⟩
      rw [results_cell1 (p := 2) (ty := 49) Tryd.results54]
      have hr : (loadVar 49 ⟨w.heap.size, 0, none⟩).run Tryd.prog (w4.setCells w.heap.size 0 W.toList) = .ok (.agg W.toList.toArray) _ :=
        run_loadVar_mid _ w.heap.size 0 49 W.toList (.array 32 5) (World.rangeAt_setCells_same _ _ _ _ (by rw [Array.length_toList]; exact HTH.out)) Tryd.underlying49 rfl (by rw [Array.length_toList, HLEN.out]; exact info25)
      rw [Array.toArray_toList] at hr
      exact hr
end Go.Proofs.YtceillnmcccckaaDoor.Sh
