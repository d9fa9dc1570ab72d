/-
  The fixed fact of the laws: Awake returns true; condition: the table holds its words. It only makes memory of its own.
-/
import Derived.Test.YtceillnmcccckaaDoorVisit
import Derived.Lib.ConvBytes
namespace Go.Proofs.YtceillnmcccckaaDoor
open Go.RowKit
open Tr

/-- []byte(s) of a string: bytes in a new row. -/
theorem conv_new (w : World) (bs : List UInt8) : ∃ c w', (convert 9 27 (.string ⟨bs.toArray⟩)).run Tryd.prog w = .ok (.slice (some ⟨w.heap.size, 0, none⟩) bs.length c) w' ∧ Rd w' w'.heap.size (some ⟨w.heap.size, 0, none⟩) bs.length bs ∧ Below w.heap.size w w' := by
  have hrun := Lib.run_convert_string_bytes (P := Tryd.prog) w 9 27 5 ⟨bs.toArray⟩ Tryd.underlying9 Tryd.underlying27 Tryd.underlying5
  refine ⟨_, _, hrun, ?_, ?_⟩
  · refine Rd.mk_ rfl _ _ (by rw [Lib.bytesWorld_size]; omega) fun j v hv => ?_
    have hj : j < bs.length := (List.getElem?_eq_some_iff.1 hv).1
    rw [Nat.zero_add, Lib.bytesWorld_cell w 5 ⟨bs.toArray⟩ j hj]
    simp [List.getD, hv, V8]
  · exact ⟨rfl, rfl, rfl, by rw [Lib.bytesWorld_size]; omega, fun k hk => Lib.bytesWorld_at_old w 5 _ k hk⟩

theorem rd_marked (w : World) (x : UInt8) : Rd (w.alloc (.cells #[.int .u8 x.toNat] 5 (1, 2))) (w.heap.size + 1) (some ⟨w.heap.size, 0, none⟩) 1 [x] :=
  Rd.mk_ rfl _ _ (by omega) fun j v hv => by
    have hl : (w.alloc (.cells #[.int .u8 x.toNat] 5 (1, 2))).heap[w.heap.size]? = some (.cells #[.int .u8 x.toNat] 5 (1, 2)) := heap_alloc_last w _
    rw [cell_of_row _ _ _ _ _ _ hl]
    match j, hv with
    | 0, hv => obtain rfl : x = v := by injection hv
               rfl
    | j + 1, hv => simp at hv
def All (_ : Nat) : Prop := True
def awk : Nat → Option T
  | 0 => none
  | i + 1 => some (oput (awk i) [UInt8.ofNat (97 + i)] [])
def awt : T := .node (.node (.leaf [97] []) (.leaf [98] [])) (.node (.leaf [99] []) (.leaf [100] []))
theorem awk4 : awk 4 = some awt := by kernel_rfl
theorem oput_n (o : Option T) (k v : List UInt8) : (oput o k v).n ≤ oln o + 1 := by
  cases o with
  | none => exact Nat.le_refl _
  | some t => exact put_n k v t
theorem awk_n : ∀ i, oln (awk i) ≤ i
  | 0 => Nat.le_refl _
  | i + 1 => Nat.le_trans (oput_n (awk i) _ _) (Nat.succ_le_succ (awk_n i))
def strs : Array Value := #[.string ⟨#[97]⟩, .string ⟨#[98]⟩, .string ⟨#[99]⟩, .string ⟨#[100]⟩]
theorem strs_at (i : Nat) (h : i < 4) : strs[i]? = some (.string ⟨[UInt8.ofNat (97 + i)].toArray⟩) := by
  match i, h with
  | 0, _ => rfl
  | 1, _ => rfl
  | 2, _ => rfl
  | 3, _ => rfl
theorem room {w : World} (h : 1 < w.heap.size) : Room All w := ⟨h, fun _ _ => trivial⟩

set_option maxRecDepth 100000 in
set_option maxHeartbeats 1000000 in
theorem awake_any (w : World) (ht : Sh.Tab w 1) (hw : 1 < w.heap.size) : Calls Tryd.prog 11 #[] w fun e w' => e = .returned (.bool true) ∧ Below w.heap.size w w' := by
  have HT := Lib.hid ht
  clear ht
  go_enter Tryd.func11, Tryd.ntmps11
  go_wp2_with fail
  refine (new_any (G := All) w (room hw)).mono ?_
  rintro e w1 ⟨g, rfl, hg, hT, hb1⟩
  have HT1 := Lib.hid hT
  have HB1 := Lib.hid hb1
  have hs1 := hb1.size
  clear hT hb1
  go_upto_region 2 with (fail)
  refine wp_region_lit ?_
  iterate 9 go_step
  have hb2 : Below w1.heap.size w1 (w1.alloc (.cells strs 9)) := (Below.refl _ _).alloc (Nat.le_refl _) _
  have hw2 := Whole.made w1 9 strs
  change Whole (w1.alloc (.cells #[.string ⟨#[97]⟩, .string ⟨#[98]⟩, .string ⟨#[99]⟩, .string ⟨#[100]⟩] 9)) _ _ _ at hw2
  change Below _ _ (w1.alloc (.cells #[.string ⟨#[97]⟩, .string ⟨#[98]⟩, .string ⟨#[99]⟩, .string ⟨#[100]⟩] 9)) at hb2
  generalize w1.alloc (.cells #[.string ⟨#[97]⟩, .string ⟨#[98]⟩, .string ⟨#[99]⟩, .string ⟨#[100]⟩] 9) = w2 at *
  have hs2 : w1.heap.size < w2.heap.size := hw2.lt
  have HW2 := Lib.hid hw2
  have HT2 := Lib.hid ((HT1.out.below hb2 (Nat.le_refl _)).more hb2.size)
  have HB2 := Lib.hid (HB1.out.trans (hb2.mono hs1))
  clear hw2 hb2 HT1 HB1 hg
  generalize w1.heap.size = gs at *
  go_wp2_with fail
  go_loopg [1, 11] 4 (fun gk s1 s11 wx => ∃ i g', i + gk = 4 ∧ s11 = .int .i64 (i : Nat) ∧ s1 = ptr (some g') ∧ TIn All wx wx.heap.size (awk i) g' ∧ Whole wx gs 9 strs ∧ Below w.heap.size w wx)
  case atStart => exact ⟨0, g, by omega, rfl, rfl, HT2.out, HW2.out, HB2.out⟩
  case round =>
    clear HT2 HW2 HB2
    obtain ⟨i, g', hi, rfl, rfl, hT, hW, hb⟩ := hrel
    have HTi := Lib.hid hT
    have HWi := Lib.hid hW
    have HBi := Lib.hid hb
    have hsw := hb.size
    cases gk with
    | succ gn =>
      have hi4 : i < 4 := by omega
      have hc := hW.at_ (strs_at i hi4)
      have hgs := hW.lt
      clear hT hW hb
      obtain ⟨c1, w3, hcv, hr3, hb3⟩ := conv_new wr [UInt8.ofNat (97 + i)]
      have hcv' := hcv
      clear hcv
      rw [show ([UInt8.ofNat (97 + i)] : List UInt8).length = 1 from rfl] at hcv' hr3
      have HP := Lib.hid (put_any (awk i) g' (some ⟨wr.heap.size, 0, none⟩) none 1 c1 0 0 [UInt8.ofNat (97 + i)] [] w3 ((HTi.out.below hb3 (Nat.le_refl _)).more hb3.size) hr3 Rd.nil (by omega) (by omega) (by omega) (by have := awk_n i; omega) (Sh.tab_below HT.out (HBi.out.trans (hb3.mono hsw)) hw) (room (by have := hb3.size; omega)))
      have HW3 := Lib.hid (HWi.out.below hb3 hgs)
      have HB3 := Lib.hid (HBi.out.trans (hb3.mono hsw))
      have hs3 := hb3.size
      clear hr3 hb3 HTi HWi HBi
      rw [ptr_some] at HP ⊢
      generalize ([UInt8.ofNat (97 + i)] : List UInt8).toArray = X at *
      go_wp2_with fail
      refine HP.out.mono ?_
      rintro e w4 ⟨g4, rfl, hg4, hT4, hb4⟩
      have HT4 := Lib.hid hT4
      have HW4 := Lib.hid (HW3.out.below hb4 (by omega))
      have HB4 := Lib.hid (HB3.out.trans (hb4.mono (by omega)))
      clear hT4 hb4 HW3 HB3 HP hc hcv'
      rw [ptr_some]
      go_wp2_with fail
      go_roundg gn
      case measure => omega
      case rel => exact ⟨i + 1, g4, by omega, congrArg (Value.int .i64) (by omega), rfl, HT4.out, HW4.out, HB4.out⟩
    | zero =>
      obtain rfl : i = 4 := by omega
      clear hi hT hW hb HWi
      rw [awk4] at HTi
      have HC := Lib.hid (way_any (some (some awt)) (some g') none 0 0 [] wr ⟨g', rfl, HTi.out⟩ RdV.nil (by omega))
      go_wp2_with fail
      refine HC.out.mono ?_
      rintro e w3 hpost
      rcases hpost with ⟨h, _⟩ | ⟨t, cs, A, n, c, A', n', c', ht, rfl, hTo, hb3⟩
      · exact absurd h (by intro h; cases h)
      obtain rfl : awt = t := by injection ht
      have hs3 := hb3.size
      have HTo := Lib.hid hTo
      have hcs : cs.size = 68 := by rw [hTo.eq, List.size_toArray, acells_len _ _ _ _ _ _ (lsum32 _) (rsum32 _)]
      have hone : cs.all (·.oneCell') = true := by rw [hTo.eq]; exact acells_one ..
      have HT3 := Lib.hid ((HTi.out.below hb3 (Nat.le_refl _)).more hb3.size)
      have HB3 := Lib.hid (HBi.out.trans (hb3.mono hsw))
      clear ht hTo hb3 HC HTi HBi
      simp only []
      have hz64 := zero64
      iterate 13 go_step
      clear hz64
      have hw4 := Whole.made w3 64 z64
      refine wpList_store_mid rfl 64 (.tmp 4) (.tmp 26) rfl w3.heap.size 0 cs rfl rfl ?_ ?_ hone ?_
      · rw [hcs]; exact hw4.there_
      · rw [hcs]; exact info64
      have hw5 := hw4.setAll (vs := cs) (by rw [hcs]; rfl)
      have hb5 : Below w3.heap.size w3 ((w3.alloc (.cells z64 64)).setCells w3.heap.size 0 cs.toList) := below_setCells w3 w3.heap.size _ 0 ((Below.refl _ _).alloc (Nat.le_refl _) _) (Nat.le_refl _)
      generalize (w3.alloc (.cells z64 64)).setCells w3.heap.size 0 cs.toList = w5 at *
      have hs5 : w3.heap.size < w5.heap.size := hw5.lt
      have HTo5 := Lib.hid (HTo.out.below hb5)
      have HT5 := Lib.hid ((HT3.out.below hb5 (Nat.le_refl _)).more hb5.size)
      have HB5 := Lib.hid (HB3.out.trans (hb5.mono (by omega)))
      have HW5 := Lib.hid hw5
      clear hw4 hw5 hb5 HTo HT3 HB3
      generalize w3.heap.size = gn at *
      have hcv := fun (w : World) (C : Array Value) (n c : Nat) => Lib.run_convert_bytes_const (P := Tryd.prog) w 27 5 C n c Tryd.underlying27 Tryd.underlying5
      have hb6 : Below w5.heap.size w5 (w5.alloc (.cells #[.int .u8 100] 5 (1, 2))) := (Below.refl _ _).alloc (Nat.le_refl _) _
      have hr6 : Rd (w5.alloc (.cells #[.int .u8 100] 5 (1, 2))) (w5.heap.size + 1) (some ⟨w5.heap.size, 0, none⟩) 1 [100] := rd_marked w5 100
      have hs6 : (w5.alloc (.cells #[.int .u8 100] 5 (1, 2))).heap.size = w5.heap.size + 1 := size_alloc _ _
      have HC := Lib.hid (get_any (some (some awt)) (some g') (some ⟨w5.heap.size, 0, none⟩) 1 1 [100] (w5.alloc (.cells #[.int .u8 100] 5 (1, 2))) ⟨g', rfl, (HT5.out.below hb6 (Nat.le_refl _)).more hb6.size⟩ (hr6.more (by omega)))
      have HTo6 := Lib.hid (HTo5.out.below hb6)
      have HT6 := Lib.hid ((HT5.out.below hb6 (Nat.le_refl _)).more hb6.size)
      have HB6 := Lib.hid (HB5.out.trans (hb6.mono (by omega)))
      have HW6 := Lib.hid (HW5.out.below hb6 hs5)
      clear hb6 hr6 hs6 HTo5 HT5 HB5 HW5 hone hcs
      go_wp2_with fail
      refine HC.out.mono ?_
      generalize w5.alloc (.cells #[.int .u8 100] 5 (1, 2)) = w6 at *
      rintro e w7 hpost
      rcases hpost with ⟨h, _⟩ | ⟨v, A2, n2, c2, hv, rfl, hr7, hnc7, hn7, hb7⟩
      · exact absurd h (by rw [show ofind (topOf (some (some awt))) [100] = some [] by kernel_rfl]; simp)
      rw [show ofind (topOf (some (some awt))) [100] = some [] by kernel_rfl] at hv
      obtain rfl : [] = v := by injection hv
      obtain rfl : 0 = n2 := hr7.len
      have HTo7 := Lib.hid (HTo6.out.below hb7)
      have HT7 := Lib.hid ((HT6.out.below hb7 (Nat.le_refl _)).more hb7.size)
      have HB7 := Lib.hid (HB6.out.trans (hb7.mono HB6.out.size))
      have hw7 := HW6.out.below hb7 HW6.out.lt
      rw [HTo7.out.eq] at hw7
      have k0 := hw7.at_ (i := 0) (v := .slice A n c) rfl
      have k2 := hw7.at_ (i := 2) (v := .int .i64 2) (by kernel_rfl)
      have k3 := hw7.at_ (i := 3) (v := .int .u64 4) (by kernel_rfl)
      have hst := run_string w7 _ A n c _ HTo7.out.key
      rw [show awt.key = [99] by kernel_rfl] at hst
      have HL := Lib.hid (len_any (some (some awt)) (some g') w7 ⟨g', rfl, HT7.out⟩ (by show awt.n ≤ _; decide))
      rw [show (oln (topOf (some (some awt))) : Nat) = 4 by kernel_rfl] at HL
      clear hv hr7 hb7 HC HTo6 HT6 HB6 HW6 hw7
      go_wp2_with fail
      refine HL.out.mono ?_
      rintro e w8 ⟨rfl, rfl⟩
      go_wp2_with fail
      go_ret
      exact ⟨rfl, HB7.out⟩
end Go.Proofs.YtceillnmcccckaaDoor
