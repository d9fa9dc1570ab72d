/-
  What leaf returns: a new leaf; conditions: its bytes are read, the table holds its words. It only makes memory of its own.
-/
import Derived.Test.YtceillnmcccckaaDoorInner
namespace Go.Proofs.YtceillnmcccckaaDoor
open Go.RowKit
open Tr
variable {G : Nat → Prop}

/-- A node that is answered; nothing that was there has changed. -/
def NodePost (G : Nat → Prop) (t : T) (w : World) (e : Ending) (w' : World) : Prop := ∃ b, e = .returned (ptr (some b)) ∧ NIn G w' w'.heap.size t b ∧ Below w.heap.size w w'

set_option maxRecDepth 100000 in
theorem empty_any (w : World) (ht : Sh.Tab w 1) (hw : 1 < w.heap.size) : Calls Tryd.prog 36 #[] w fun e w' => e = .returned (.agg (Sh.bcells (Sh.Sha.sum []))) ∧ Below w.heap.size w w' := by
  have hz49 := zero49
  have hb1 : Below w.heap.size w (w.alloc (.cells (zb 32) 49)) := (Below.refl _ _).alloc (Nat.le_refl _) _
  have hsz : (w.alloc (.cells (zb 32) 49)).heap.size = w.heap.size + 1 := size_alloc _ _
  have HSUM := Lib.hid (Sh.sum_any none 0 0 [] (w.alloc (.cells (zb 32) 49)) ⟨rfl, fun h => absurd h (by omega)⟩ (by omega) (Sh.tab_below ht hb1 hw) (by omega))
  have HW := Lib.hid (Whole.made w 49 (zb 32))
  clear ht
  go_enter Tryd.func36, Tryd.ntmps36
  go_wp2_with fail
  refine HSUM.out.mono ?_
  rintro e w2 ⟨rfl, hb2⟩
  have HB := Lib.hid (hb1.trans (hb2.mono hb1.size))
  have HW2 := Lib.hid (HW.out.below hb2 (by omega))
  clear hb1 hb2 hsz HSUM HW hz49
  obtain ⟨Y, hY⟩ : ∃ Y, Sh.bcells (Sh.Sha.sum []) = Y := ⟨_, rfl⟩
  have hsizeY : Y.size = 32 := by rw [← hY, Sh.bcells_size, Sh.sum_length]
  have honeY : Y.all (·.oneCell') = true := by rw [← hY]; exact Sh.bcells_one _
  rw [show ([] : List (List UInt8)).flatten = [] from rfl, hY]
  have HY := Lib.hid hY
  clear hY
  simp only []
  go_step
  refine wpList_store_mid rfl 49 (.tmp 0) (.tmp 1) rfl w.heap.size 0 Y rfl rfl ?_ ?_ honeY ?_
  · rw [hsizeY]; have := HW2.out.there_; rw [zb_size] at this; exact this
  · rw [hsizeY]; exact info49
  have HW8 := Lib.hid (HW2.out.setAll (vs := Y) (by rw [zb_size, hsizeY]))
  have HB8 := Lib.hid (below_setCells w w.heap.size Y.toList 0 HB.out (by omega))
  generalize w2.setCells w.heap.size 0 Y.toList = w8 at *
  go_wp2_with fail
  refine bodyPost_ret (results_cell1 Tryd.results36 _ _ _ ⟨w.heap.size, 0, none⟩ _ rfl (load_whole HW8.out 49 _ Tryd.underlying49 rfl (by rw [hsizeY]; exact info49))) rfl ⟨by rw [HY.out], HB8.out⟩

def z64 : Array Value := (acells (.slice none 0 0) (.slice none 0 0) 0 0 z32 z32).toArray
def z88 : Array Value := (ncells (.slice none 0 0) (.slice none 0 0) 0 0 z32 z32 z32 (ptr none) (ptr none)).toArray
theorem zero64 : ∀ w, (zeroValue 64).run Tryd.prog w = .ok (.agg z64) w := (zero_of_info (P := Tryd.prog) (t := 64) (v := .agg z64) (n := 68) (by kernel_rfl)).1
theorem zero88 : ∀ w, (zeroValue 88).run Tryd.prog w = .ok (.agg z88) w := (zero_of_info (P := Tryd.prog) (t := 88) (v := .agg z88) (n := 102) (by kernel_rfl)).1

section
variable {w : World} {g : Nat} {t : TypeId} {kv vv x y : Value} {h : Int} {z : Nat} {l r s s' : List UInt8}
theorem ncells_arange (hw : Whole w g t (ncells kv vv h z l r s x y).toArray) : w.rangeAt g 0 (acells kv vv h z l r) := fun j v hv =>
  hw.at_ (by
    have hj := (List.getElem?_eq_some_iff.1 hv).1
    rw [Nat.zero_add, List.getElem?_toArray, ncells, List.getElem?_append_left hj, hv])
theorem ncells_store (hw : Whole w g t (ncells kv vv h z l r s x y).toArray) (hl : l.length = 32) (hr : r.length = 32) (hs : s.length = 32) (hs' : s'.length = 32) : Whole (w.setCells g 68 (s'.map V8)) g t (ncells kv vv h z l r s' x y).toArray := by
  have := Whole.setCells (s'.map V8) (acells kv vv h z l r) (s.map V8) [x, y] hw (by simp [hs, hs'])
  rwa [acells_len _ _ _ _ _ _ hl hr] at this
end

set_option maxRecDepth 100000 in
set_option maxHeartbeats 1000000 in
theorem leaf_any (A : Option Addr) (n c : Nat) (A' : Option Addr) (n' c' : Nat) (k v : List UInt8) (w : World) (hk : Rd w w.heap.size A n k) (hv : Rd w w.heap.size A' n' v) (hn : n ≤ 96) (hn' : n' ≤ 256)
    (ht : Sh.Tab w 1) (hw : Room G w) : Calls Tryd.prog 38 #[.slice A n c, .slice A' n' c'] w (NodePost G (.leaf k v) w) := by
  have hw1 := hw.1
  have HG := Lib.hid hw
  clear hw
  have hz64 := zero64
  have hz88 := zero88
  have HK := Lib.hid hk
  have HV := Lib.hid hv
  have HT := Lib.hid ht
  clear hk hv ht
  go_enter Tryd.func38, Tryd.ntmps38
  go_wp2_with fail
  refine (clone_new A n c k w HK.out (by omega)).mono ?_
  rintro e w1 ⟨A1, n1, c1, rfl, hr1, hnc1, hg1, hb1⟩
  have HG1 := Lib.hid hg1
  clear hg1
  have HR1 := Lib.hid hr1
  have HB1 := Lib.hid hb1
  clear hr1 hb1
  go_wp2_with fail
  refine (clone_new A' n' c' v w1 ((HV.out.below HB1.out (Nat.le_refl _)).more HB1.out.size) (by omega)).mono ?_
  rintro e w2 ⟨A2, n2, c2, rfl, hr2, hnc2, hg2, hb2⟩
  have HG2 := Lib.hid hg2
  clear hg2
  have HR2 := Lib.hid hr2
  have HB2 := Lib.hid hb2
  clear hr2 hb2
  go_upto_region 2 with (fail)
  have e88 : Array.foldl (fun cs x => cs.setIfInBounds x.snd x.fst) z88 (((z64.setIfInBounds 0 (Value.slice A1 n1 c1)).setIfInBounds 1 (Value.slice A2 n2 c2)).setIfInBounds 3 (Value.int IntKind.u64 1)).zipIdx 0 z64.size
      = (ncells (.slice A1 n1 c1) (.slice A2 n2 c2) 0 1 z32 z32 z32 (ptr none) (ptr none)).toArray := by kernel_rfl
  rw [e88]
  clear hz64 hz88 e88
  clear h
  have hw3 := Whole.made w2 88 (ncells (.slice A1 n1 c1) (.slice A2 n2 c2) 0 1 z32 z32 z32 (ptr none) (ptr none)).toArray
  have hb3 : Below w2.heap.size w2 (w2.alloc (.cells (ncells (.slice A1 n1 c1) (.slice A2 n2 c2) 0 1 z32 z32 z32 (ptr none) (ptr none)).toArray 88)) := (Below.refl _ _).alloc (Nat.le_refl _) _
  generalize hX : (ncells (.slice A1 n1 c1) (.slice A2 n2 c2) 0 1 z32 z32 z32 (ptr none) (ptr none)).toArray = X at *
  generalize w2.alloc (.cells X 88) = w3 at *
  subst hX
  have hb : Below w.heap.size w w3 := (HB1.out.trans (HB2.out.mono HB1.out.size)).trans (hb3.mono (Nat.le_trans HB1.out.size HB2.out.size))
  have hg1 : Rd w3 w2.heap.size A1 n1 k := ((HR1.out.below HB2.out (Nat.le_refl _)).more HB2.out.size).below hb3 (Nat.le_refl _)
  have hg2 : Rd w3 w2.heap.size A2 n2 v := HR2.out.below hb3 (Nat.le_refl _)
  have hr1 : Rd w3 w3.heap.size A1 n1 k := hg1.more hb3.size
  have hr2 : Rd w3 w3.heap.size A2 n2 v := hg2.more hb3.size
  have hn1 : n1 ≤ 96 := by have h1 := hr1.len; have h2 := HK.out.len; omega
  have hn2 : n2 ≤ 256 := by have h1 := hr2.len; have h2 := HV.out.len; omega
  have hs3 := Nat.le_trans HB1.out.size HB2.out.size
  have HH := Lib.hid (hash_leaf A1 n1 c1 A2 n2 c2 1 z32 z32 k v w3 hr1 hr2 hnc1 hnc2 (by omega) (by omega) (Sh.tab_below HT.out hb hw1) (by have := hb.size; omega))
  have HR1' := Lib.hid hg1
  have HR2' := Lib.hid hg2
  have HB := Lib.hid hb
  have HW3 := Lib.hid hw3
  have HGD : Hid (G w2.heap.size ∧ (0 < n1 → ∀ b' o, A1 = some ⟨b', o, none⟩ → G b') ∧ (0 < n2 → ∀ b' o, A2 = some ⟨b', o, none⟩ → G b')) := Lib.hid ⟨HG.out.2 _ hs3, fun _ b o e => HG.out.2 _ (HG1.out b o e), fun _ b o e => HG.out.2 _ (Nat.le_trans HB1.out.size (HG2.out b o e))⟩
  clear hw3 hb3 hb hr1 hr2 hg1 hg2 HR1 HR2 HB1 HB2 HK HV HT HG HG1 HG2
  generalize w2.heap.size = g at *
  refine wp_region_lit ?_
  iterate 12 go_step
  refine wpList_load_mid rfl 64 (.tmp 16) rfl g 0 rfl _ _ (ncells_arange HW3.out) Tryd.underlying64 rfl (by rw [acells_len _ _ _ _ _ _ rfl rfl]; exact info64) ?_
  go_wp2_with fail
  refine HH.out.mono ?_
  rintro e w4 ⟨rfl, hb4⟩
  have hw4 := HW3.out.below hb4 HW3.out.lt
  have HB4 := Lib.hid (HB.out.trans (hb4.mono HB.out.size))
  have HR14 := Lib.hid (HR1'.out.below hb4 (Nat.le_of_lt HW3.out.lt))
  have HR24 := Lib.hid (HR2'.out.below hb4 (Nat.le_of_lt HW3.out.lt))
  have HW4 := Lib.hid hw4
  clear hw4 hb4 HH HB HW3 HR1' HR2'
  obtain ⟨S, hS⟩ : ∃ S, Sh.Sha.sum (leafText k v) = S := ⟨_, rfl⟩
  have hS32 : S.length = 32 := by rw [← hS]; exact Sh.sum_length _
  have hsizeY : (Sh.bcells S).size = 32 := (Sh.bcells_size S).trans hS32
  rw [hS]
  have HS := Lib.hid hS
  clear hS
  simp only []
  iterate 7 go_step
  refine wpList_store_mid rfl 49 (.tmp 20) (.tmp 18) rfl g 68 (Sh.bcells S) rfl rfl ?_ ?_ (Sh.bcells_one S) ?_
  · rw [hsizeY]; exact HW4.out.midthere 68 32 (by rw [List.size_toArray, ncells_len _ _ _ _ _ _ _ _ _ rfl rfl rfl]; omega)
  · rw [hsizeY]; exact info49
  have hw5 := ncells_store HW4.out rfl rfl rfl hS32
  have hb5 := below_setCells w g (S.map V8) 68 HB4.out hs3
  have hs5 := size_setCells g (S.map V8) 68 w4
  have hbz : Below g w4 (w4.setCells g 68 (S.map V8)) := below_setCells w4 g (S.map V8) 68 (Below.refl _ _) (Nat.le_refl _)
  have HW5 := Lib.hid hw5
  have HB5 := Lib.hid hb5
  have HR15 := Lib.hid (HR14.out.below hbz (Nat.le_refl _))
  have HR25 := Lib.hid (HR24.out.below hbz (Nat.le_refl _))
  clear hw5 hb5 hs5 hbz HW4 HB4 HR14 HR24
  show wpList _ _ _ _ _ (w4.setCells g 68 (S.map V8))
  generalize w4.setCells g 68 (S.map V8) = w5 at *
  go_wp2_with fail
  go_ret
  have hlt := HW5.out.lt
  have hle := Nat.le_of_lt hlt
  refine ⟨g, rfl, ⟨A1, n1, c1, A2, n2, c2, ⟨hlt, ?_, HR15.out.more hle, hnc1, hn1, HR25.out.more hle, hnc2, hn2, HGD.out⟩⟩, HB5.out⟩
  rw [← HS.out] at HW5
  exact HW5.out
end Go.Proofs.YtceillnmcccckaaDoor
