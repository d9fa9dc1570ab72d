/-
  What the digest's method pad does: the running sum takes in 0x80, noughts up to place 56, and eight times the length in eight bytes; conditions as for add.
-/
import Derived.Test.YtceillnmcccckaaDoorShaAdd
namespace Go.Proofs.YtceillnmcccckaaDoor.Sh
open Go.RowKit

namespace Sha
def Dg.relen (D : Dg) (x : UInt64) : Dg := ⟨D.s, D.blk, D.n, x⟩
theorem Dg.push_relen (D : Dg) (b : UInt8) (x : UInt64) : (D.relen x).push b = (D.push b).relen x := by
  unfold Dg.push Dg.relen
  simp only []
  split <;> rfl
theorem Dg.pushAll_relen (D : Dg) (l : List UInt8) (x : UInt64) : (D.relen x).pushAll l = (D.pushAll l).relen x := by
  induction l generalizing D with
  | nil => rfl
  | cons b r ih =>
    show ((D.relen x).push b).pushAll r = _
    rw [Dg.push_relen, ih]
    rfl
theorem Dg.add_eq (D : Dg) (l : List UInt8) : D.add l = (D.pushAll l).relen (D.len + UInt64.ofNat l.length) := Dg.pushAll_relen D l _
theorem Dg.ok_relen {D : Dg} (h : D.ok) (x : UInt64) : (D.relen x).ok := ⟨h.1, h.2⟩
theorem Dg.relen_relen (D : Dg) (x y : UInt64) : (D.relen x).relen y = D.relen y := rfl
theorem Dg.push_n (D : Dg) (b : UInt8) (h : D.n < 64) : (D.push b).n = (D.n + 1) % 64 := by
  unfold Dg.push
  split
  · rename_i h1; rw [h1]
  · rename_i h1; show D.n + 1 = _; rw [Nat.mod_eq_of_lt (by omega)]
theorem Dg.pushAll_n (D : Dg) (l : List UInt8) (h : D.ok) : (D.pushAll l).n = (D.n + l.length) % 64 := by
  induction l generalizing D with
  | nil => exact (Nat.mod_eq_of_lt h.2).symm
  | cons b r ih =>
    show ((D.push b).pushAll r).n = _
    rw [ih _ (Dg.ok_push h b), Dg.push_n D b h.2, List.length_cons]
    omega
theorem Dg.pushAll_snoc (D : Dg) (l : List UInt8) (b : UInt8) : D.pushAll (l ++ [b]) = (D.pushAll l).push b := by rw [Dg.pushAll_append]; rfl

def be8 (L : UInt64) : List UInt8 := (List.range 8).map fun i => (L >>> UInt64.ofNat (56 - 8 * i)).toUInt8
def zeros (n : Nat) : Nat := (119 - n % 64) % 64
def padding (n : Nat) (L : UInt64) : List UInt8 := (128 :: List.replicate (zeros n) 0) ++ be8 L
theorem be8_take (L : UInt64) (i : Nat) (h : i < 8) : (be8 L).take (i + 1) = (be8 L).take i ++ [(L >>> UInt64.ofNat (56 - 8 * i)).toUInt8] := by
  have hl : (be8 L).length = 8 := by simp [be8]
  rw [List.take_succ_eq_append_getElem (by omega)]
  simp [be8]
theorem be8_byte (L : UInt64) (i : Nat) (h : i < 8) : IntKind.u8.wrap ((L.toNat : Int) / 2 ^ (56 - 8 * i)) = ((L >>> UInt64.ofNat (56 - 8 * i)).toUInt8.toNat : Int) := by
  rw [IntKind.wrap_u8', UInt64.toNat_toUInt8, UInt64.toNat_shiftRight, UInt64.toNat_ofNat_of_lt' (show 56 - 8 * i < UInt64.size from Nat.lt_of_le_of_lt (Nat.sub_le _ _) (by decide)),
    Nat.mod_eq_of_lt (show 56 - 8 * i < 64 by omega), Nat.shiftRight_eq_div_pow, Int.natCast_emod, Int.natCast_ediv, Int.natCast_pow]
  rfl
end Sha

theorem add_one (g : Nat) (D : Sha.Dg) (hok : D.ok) (v : UInt8) (c : Int) (hc : c = (v.toNat : Int)) (w : World) (t : TypeId) (hD : Whole w g 108 (dcells D)) (ht : Tab w 1) (hw : 1 < w.heap.size) (hg : 1 ≠ g) :
    Calls Tryd.prog 64 #[.pointer (some ⟨g, 0, none⟩), .slice (some ⟨w.heap.size, 0, none⟩) 1 1] (w.alloc (.cells #[.int .u8 c] t)) fun e w' =>
      e = .returned (.tuple #[]) ∧ Whole w' g 108 (dcells ((D.push v).relen (D.len + 1))) ∧ w.grownBy w' (some g) := by
  subst hc
  have hga : w.grownBy (w.alloc (.cells #[.int .u8 (v.toNat : Int)] t)) (some g) := ⟨rfl, rfl, rfl, by simp, fun k hk _ => Below.heap_alloc w _ k hk⟩
  have hB : Bytes (w.alloc (.cells #[.int .u8 (v.toNat : Int)] t)) g (some ⟨w.heap.size, 0, none⟩) 1 [v] :=
    ⟨rfl, fun _ => ⟨w.heap.size, 0, rfl, fun e => by have := hD.lt; omega, by simp, fun j u hu => by
      have hj : j < 1 := (List.getElem?_eq_some_iff.1 hu).1
      obtain rfl : j = 0 := by omega
      simp at hu
      subst hu
      exact (Whole.made w t _).at_ rfl⟩⟩
  refine (add_any g D hok _ 1 1 [v] _ (hD.alloc _) hB (Nat.le_refl _) (by omega) (tab_grown ht hga hw hg) (by simp; omega) hg).mono ?_
  rintro e w' ⟨rfl, h1, h2⟩
  refine ⟨rfl, ?_, hga.trans h2⟩
  rw [Sha.Dg.add_eq] at h1
  exact h1

def PadPost (g : Nat) (D : Sha.Dg) (w w' : World) : Prop := ∃ x, Whole w' g 108 (dcells ((D.pushAll (Sha.padding D.n (D.len * 8))).relen x)) ∧ w.grownBy w' (some g)

/-- How it stands while the padding goes on: the bytes l have been taken in. -/
def PRel (g : Nat) (D : Sha.Dg) (w : World) (l : List UInt8) (wx : World) : Prop := ∃ x, Whole wx g 108 (dcells ((D.pushAll l).relen x)) ∧ w.grownBy wx (some g)

theorem wmul8_u64 (x : UInt64) : IntKind.u64.wrap ((x.toNat : Int) * 8) = ((x * 8).toNat : Int) := by
  rw [IntKind.wrap_u64, UInt64.toNat_mul]
  show _ = (((x.toNat * 8) % 18446744073709551616 : Nat) : Int)
  omega
theorem prel_step {g : Nat} {D : Sha.Dg} {w wx w' : World} {l : List UInt8} {x : UInt64} (v : UInt8) (hg : w.grownBy wx (some g))
    (h : Whole w' g 108 (dcells ((((D.pushAll l).relen x).push v).relen (x + 1))) ∧ wx.grownBy w' (some g)) : PRel g D w (l ++ [v]) w' := by
  refine ⟨x + 1, ?_, hg.trans h.2⟩
  rw [Sha.Dg.pushAll_snoc]
  rw [Sha.Dg.push_relen] at h
  exact h.1

set_option maxRecDepth 100000 in
set_option maxHeartbeats 1000000 in
theorem pad_any (g : Nat) (D : Sha.Dg) (hok : D.ok) (w : World) (hD : Whole w g 108 (dcells D)) (ht : Tab w 1) (hw : 1 < w.heap.size) (hg : 1 ≠ g) :
    Calls Tryd.prog 65 #[.pointer (some ⟨g, 0, none⟩)] w fun e w' => e = .returned (.tuple #[]) ∧ PadPost g D w w' := by
  have c73 := hD.at_ (by rw [dcells, List.getElem?_toArray]; exact dvals_73 _ _ _ _ hok.1)
  have HD := Lib.hid hD
  have Hok := Lib.hid hok
  have HT := Lib.hid ht
  clear hD hok ht
  have hL := wmul8_u64 D.len
  obtain ⟨L, hL2⟩ : ∃ L, D.len * 8 = L := ⟨_, rfl⟩
  rw [hL2] at hL
  have HL := Lib.hid hL2
  clear hL2
  go_enter Tryd.func65, Tryd.ntmps65
  go_wp2_with fail
  refine (add_one g D Hok.out 128 128 rfl w 5 HD.out HT.out hw hg).mono ?_
  rintro e w1 ⟨rfl, h1⟩
  have hs : PRel g D w (128 :: List.replicate 0 0) w1 := ⟨D.len + 1, h1.1, h1.2⟩
  have HS := Lib.hid hs
  clear hs h1 c73
  go_wp2_with fail
  go_loopg [12] (Sha.zeros D.n) (fun gk _ wx => ∃ j, j + gk = Sha.zeros D.n ∧ PRel g D w (128 :: List.replicate j 0) wx)
  case atStart => exact ⟨0, by omega, HS.out⟩
  case round =>
    clear HS
    obtain ⟨j, hj, x, hW, hG⟩ := hrel
    have hokp : ((D.pushAll (128 :: List.replicate j 0)).relen x).ok := Sha.Dg.ok_relen (Sha.Dg.ok_pushAll Hok.out _) _
    have hn : ((D.pushAll (128 :: List.replicate j 0)).relen x).n = (D.n + (j + 1)) % 64 := by
      show (D.pushAll (128 :: List.replicate j 0)).n = _
      rw [Sha.Dg.pushAll_n _ _ Hok.out]
      simp
    have c72 := hW.at_ (by rw [dcells, List.getElem?_toArray]; exact dvals_72 _ _ _ _ hokp.1)
    rw [hn] at c72
    have hz : Sha.zeros D.n = (119 - D.n % 64) % 64 := rfl
    have hD64 := Hok.out.2
    cases gk with
    | zero =>
      have q56 : ((((D.n + (j + 1)) % 64 : Nat) : Int) != 56) = false := by
        rw [bne_eq_false_iff_eq]; omega
      obtain rfl : j = Sha.zeros D.n := by omega
      have hs : PRel g D w ((128 :: List.replicate (Sha.zeros D.n) 0) ++ (Sha.be8 L).take 0) wr := by
        rw [List.take_zero, List.append_nil]; exact ⟨x, hW, hG⟩
      have HS := Lib.hid hs
      clear hs hW hG hokp hn hz hj
      generalize (D.n + (Sha.zeros D.n + 1)) % 64 = N at *
      go_wp2_with fail
      clear c72 q56
      go_loopg [3] 8 (fun gk s3 wx => ∃ i, i + gk = 8 ∧ s3 = .int .i64 (56 - 8 * (i : Int)) ∧ PRel g D w ((128 :: List.replicate (Sha.zeros D.n) 0) ++ (Sha.be8 L).take i) wx)
      case atStart => exact ⟨0, by omega, rfl, HS.out⟩
      case round =>
        clear HS
        obtain ⟨i, hi, rfl, x, hW, hG⟩ := hrel
        cases gk with
        | zero =>
          obtain rfl : i = 8 := by omega
          have hfin : PadPost g D w wr := ⟨x, by rw [HL.out]; exact hW, hG⟩
          have HF := Lib.hid hfin
          clear hfin hW hG
          go_wp2_with fail
          go_end0
          exact ⟨rfl, HF.out⟩
        | succ gn =>
          have hi8 : i < 8 := by omega
          have hok2 := Sha.Dg.ok_relen (Sha.Dg.ok_pushAll Hok.out ((128 :: List.replicate (Sha.zeros D.n) 0) ++ (Sha.be8 L).take i)) x
          obtain ⟨v, hv⟩ : ∃ v, (L >>> UInt64.ofNat (56 - 8 * i)).toUInt8 = v := ⟨_, rfl⟩
          have hbyte := Sha.be8_byte L i hi8
          rw [hv] at hbyte
          have HV := Lib.hid hv
          clear hv
          have hsh : (56 - 8 * (i : Int)).toNat = 56 - 8 * i := by omega
          have z0 : 0 ≤ 56 - 8 * (i : Int) := by omega
          have z1 : 56 - 8 * (i : Int) ≤ 64 := by omega
          have HW := Lib.hid hW
          have HG := Lib.hid hG
          have HOK := Lib.hid hok2
          have HT2 := Lib.hid (tab_grown HT.out hG hw hg)
          have hw2 : 1 < wr.heap.size := by have := hG.size; omega
          clear hW hG hok2
          go_wp2_with fail
          refine (add_one g _ HOK.out v _ rfl _ 5 HW.out HT2.out hw2 hg).mono ?_
          rintro e w2 ⟨rfl, h2⟩
          clear hbyte
          go_wp2_with fail
          go_roundg gn
          case measure => omega
          case rel =>
            refine ⟨i + 1, by omega, congrArg (Value.int .i64) (by omega), ?_⟩
            rw [Sha.be8_take L i hi8, HV.out, ← List.append_assoc]
            exact prel_step v HG.out h2
    | succ gn =>
      have q56 : ((((D.n + (j + 1)) % 64 : Nat) : Int) != 56) = true := by
        rw [bne_iff_ne]; omega
      have HW := Lib.hid hW
      have HG := Lib.hid hG
      have HOK := Lib.hid hokp
      have HZ := Lib.hid hz
      have HJ := Lib.hid hj
      have HT2 := Lib.hid (tab_grown HT.out hG hw hg)
      have hw2 : 1 < wr.heap.size := by have := hG.size; omega
      clear hW hG hokp hn hz hj
      generalize (D.n + (j + 1)) % 64 = N at *
      go_wp2_with fail
      refine (add_one g _ HOK.out 0 0 rfl _ 5 HW.out HT2.out hw2 hg).mono ?_
      rintro e w2 ⟨rfl, h2⟩
      go_wp2_with fail
      go_roundg gn
      case measure => omega
      case rel =>
        refine ⟨j + 1, by have := HJ.out; omega, ?_⟩
        rw [List.replicate_succ', ← List.cons_append]
        exact prel_step 0 HG.out h2
end Go.Proofs.YtceillnmcccckaaDoor.Sh
