/-
  What a tree's Put, Cut, Get, Root, Len return; conditions: tree and bytes lie in memory, there are fewer than 4294967296 leaves, the table holds its words. They only make memory of their own.
-/
import Derived.Test.YtceillnmcccckaaDoorTold
namespace Go.Proofs.YtceillnmcccckaaDoor
open Go.RowKit
open Tr
variable {G : Nat → Prop}

def Tr.oput (o : Option T) (k v : List UInt8) : T :=
  match o with
  | none => .leaf k v
  | some t => t.put k v
def Tr.ocut (o : Option T) (k : List UInt8) : Option T :=
  match o with
  | none => none
  | some t => t.cut k
def Tr.oln : Option T → Nat
  | none => 0
  | some t => t.n
def osum : Option T → List UInt8
  | none => Sh.Sha.sum []
  | some t => t.sum
theorem osum32 (o : Option T) : (osum o).length = 32 := by
  cases o with
  | none => exact Sh.sum_length _
  | some t => exact sum32 t

theorem put_nil (A A' : Option Addr) (n c n' c' : Nat) (w : World) : Calls Tryd.prog 16 #[.pointer none, .slice A n c, .slice A' n' c'] w fun e w' => e = .returned (.tuple #[.pointer none, .int .i64 1]) ∧ w = w' := by
  go_enter Tryd.func16, Tryd.ntmps16
  go_wp2_with fail
  go_ret2
  exact ⟨rfl, rfl⟩
theorem put_key (g : Nat) (A A' : Option Addr) (n c n' c' : Nat) (w : World) (hn : n < 1 ∨ 96 < n) : Calls Tryd.prog 16 #[ptr (some g), .slice A n c, .slice A' n' c'] w fun e w' => e = .returned (.tuple #[.pointer none, .int .i64 10]) ∧ w = w' := by
  rw [ptr_some]
  rcases Nat.lt_or_ge n 1 with h1 | h1
  · obtain rfl : n = 0 := by omega
    clear hn h1
    go_enter Tryd.func16, Tryd.ntmps16
    go_wp2_with fail
    go_ret2
    exact ⟨rfl, rfl⟩
  · have h2 : 96 < n := by omega
    clear hn
    go_enter Tryd.func16, Tryd.ntmps16
    go_wp2_with fail
    go_ret2
    exact ⟨rfl, rfl⟩
theorem put_long (g : Nat) (A A' : Option Addr) (n c n' c' : Nat) (w : World) (h1 : 1 ≤ n) (h2 : n ≤ 96) (h3 : 256 < n') : Calls Tryd.prog 16 #[ptr (some g), .slice A n c, .slice A' n' c'] w fun e w' => e = .returned (.tuple #[.pointer none, .int .i64 3]) ∧ w = w' := by
  rw [ptr_some]
  go_enter Tryd.func16, Tryd.ntmps16
  go_wp2_with fail
  go_ret2
  exact ⟨rfl, rfl⟩

/-- A tree that is answered, and a number. -/
def PutPost (G : Nat → Prop) (t : T) (w : World) (e : Ending) (w' : World) : Prop := ∃ g, e = .returned (.tuple #[ptr (some g), .int .i64 0]) ∧ w.heap.size ≤ g ∧ TIn G w' w'.heap.size (some t) g ∧ Below w.heap.size w w'

set_option maxRecDepth 100000 in
set_option maxHeartbeats 1000000 in
theorem put_any (o : Option T) (g : Nat) (A A' : Option Addr) (n c n' c' : Nat) (k v : List UInt8) (w : World) (ho : TIn G w w.heap.size o g) (hk : Rd w w.heap.size A n k) (hv : Rd w w.heap.size A' n' v) (h1 : 1 ≤ n) (h2 : n ≤ 96) (h3 : n' ≤ 256)
    (hn : oln o + 1 ≤ 4294967296) (ht : Sh.Tab w 1) (hw : Room G w) : Calls Tryd.prog 16 #[ptr (some g), .slice A n c, .slice A' n' c'] w (PutPost G (oput o k v) w) := by
  have HC1 := Lib.hid (leaf_any (G := G) A n c A' n' c' k v w hk hv h2 h3 ht hw)
  obtain ⟨hg, hgg, p, hW, hP⟩ := ho
  have HW := Lib.hid hW
  have HT := Lib.hid ht
  have HG := Lib.hid hw
  have HP := Lib.hid hP
  clear hk hv hgg hW ht hw hP
  rw [ptr_some]
  go_enter Tryd.func16, Tryd.ntmps16
  go_wp2_with fail
  refine HC1.out.mono ?_
  rintro e w1 ⟨bl, rfl, hN1, hb1⟩
  have hc0 := (HW.out.below hb1 hg).at_ (i := 0) rfl
  have hs1 := hb1.size
  rw [ptr_some]
  cases o with
  | none =>
    obtain rfl := HP.out
    rw [ptr_none] at hc0
    have HN1 := Lib.hid hN1
    have HB1 := Lib.hid hb1
    clear hN1 hb1 HC1
    go_wp2_with fail
    go_ret2
    have hb2 := (Below.refl w1.heap.size w1).alloc (Nat.le_refl _) (.cells #[.pointer (some ⟨bl, 0, none⟩)] 80)
    exact ⟨w1.heap.size, rfl, hs1, ⟨by simp, HG.out.2 _ hs1, some bl, Whole.made w1 80 _, bl, rfl, HN1.out.on hb2⟩, HB1.out.alloc hs1 _⟩
  | some t =>
    obtain ⟨b, rfl, hN⟩ := HP.out
    rw [ptr_some] at hc0
    have HC2 := Lib.hid (with_any k v bl t b w1 (hN.on hb1) hN1 hn (Sh.tab_below HT.out hb1 HG.out.1) (HG.out.on hb1))
    rw [ptr_some, ptr_some] at HC2
    have HB1 := Lib.hid hb1
    clear hN hN1 hb1 HC1
    go_wp2_with fail
    refine HC2.out.mono ?_
    rintro e w2 ⟨b2, rfl, hN2, hb2⟩
    have hs2 := hb2.size
    have HN2 := Lib.hid hN2
    have HB2 := Lib.hid (HB1.out.trans (hb2.mono hs1))
    clear hN2 hb2 HC2 HB1 hc0
    rw [ptr_some]
    go_wp2_with fail
    go_ret2
    have hb3 := (Below.refl w2.heap.size w2).alloc (Nat.le_refl _) (.cells #[.pointer (some ⟨b2, 0, none⟩)] 80)
    exact ⟨w2.heap.size, rfl, by omega, ⟨by simp, HG.out.2 _ (by omega), some b2, Whole.made w2 80 _, b2, rfl, HN2.out.on hb3⟩, HB2.out.alloc (by omega) _⟩

def CutPost (G : Nat → Prop) (o : Option (Option T)) (p : Option Nat) (k : List UInt8) (w : World) (e : Ending) (w' : World) : Prop :=
  (ofind (topOf o) k = none ∧ e = .returned (.tuple #[ptr p, .bool false]) ∧ w = w') ∨
  ∃ v g, ofind (topOf o) k = some v ∧ e = .returned (.tuple #[ptr (some g), .bool true]) ∧ w.heap.size ≤ g ∧ TIn G w' w'.heap.size (ocut (topOf o) k) g ∧ Below w.heap.size w w'

set_option maxRecDepth 100000 in
set_option maxHeartbeats 1000000 in
theorem cut_any (o : Option (Option T)) (p : Option Nat) (A : Option Addr) (n c : Nat) (k : List UInt8) (w : World) (ho : GIn G w w.heap.size o p) (hk : Rd w w.heap.size A n k)
    (hn : oln (topOf o) ≤ 4294967296) (ht : Sh.Tab w 1) (hw : Room G w) : Calls Tryd.prog 18 #[ptr p, .slice A n c] w (CutPost G o p k w) := by
  have HU := Lib.hid (upmost_any o p _ w ho)
  have HO := Lib.hid ho
  have HK := Lib.hid hk
  have HT := Lib.hid ht
  have HG := Lib.hid hw
  clear ho hk ht hw
  go_enter Tryd.func18, Tryd.ntmps18
  go_wp2_with fail
  refine HU.out.mono ?_
  rintro e w1 ⟨q, rfl, hP, rfl⟩
  have HF := Lib.hid (find_any (topOf o) q _ _ A n c k w hP HK.out)
  clear hP
  go_wp2_with fail
  refine HF.out.mono ?_
  rintro e w1 ⟨q2, rfl, rfl, hr⟩
  rcases hr with ⟨hr, rfl⟩ | ⟨b, v, hr, rfl, hN⟩
  · rw [ptr_none]
    have HR := Lib.hid hr
    clear hr HU HF
    go_wp2_with fail
    go_ret2
    exact .inl ⟨HR.out, rfl, rfl⟩
  · rw [ptr_some]
    cases o with
    | none => exact absurd hr (by intro h; cases h)
    | some o =>
      cases o with
      | none => exact absurd hr (by intro h; cases h)
      | some t =>
        obtain ⟨g, rfl, hg, hgg, p1, hW, b1, rfl, hN1⟩ := HO.out
        have hc0 := hW.at_ (i := 0) rfl
        have HC2 := Lib.hid (without_any A n c k t b1 w hN1 HK.out hn HT.out HG.out)
        rw [ptr_some] at HC2 hc0 ⊢
        have HR := Lib.hid hr
        clear hr HU HF hN hgg hW hN1
        go_wp2_with fail
        refine HC2.out.mono ?_
        rintro e w2 ⟨q, rfl, hP2, hb2⟩
        have hs2 := hb2.size
        have HP2 := Lib.hid hP2
        have HB2 := Lib.hid hb2
        clear hP2 hb2 hc0 HC2
        obtain ⟨X, hX⟩ : ∃ X, ptr q = .pointer X := ⟨_, rfl⟩
        rw [hX]
        have HX := Lib.hid hX
        clear hX
        go_wp2_with fail
        go_ret2
        have hb3 := (Below.refl w2.heap.size w2).alloc (Nat.le_refl _) (.cells #[.pointer X] 80)
        exact .inr ⟨v, w2.heap.size, HR.out, rfl, hs2, ⟨by simp, HG.out.2 _ hs2, q, by rw [HX.out]; exact Whole.made w2 80 _, (HP2.out.below hb3 (Nat.le_refl _)).more hb3.size⟩, HB2.out.alloc hs2 _⟩

def GetPost (o : Option T) (k : List UInt8) (w : World) (e : Ending) (w' : World) : Prop :=
  (ofind o k = none ∧ e = .returned (.tuple #[.slice none 0 0, .bool false]) ∧ w = w') ∨
  ∃ v A n c, ofind o k = some v ∧ e = .returned (.tuple #[.slice A n c, .bool true]) ∧ Rd w' w'.heap.size A n v ∧ n ≤ c ∧ n ≤ 256 ∧ Below w.heap.size w w'

set_option maxRecDepth 100000 in
theorem get_any (o : Option (Option T)) (p : Option Nat) (A : Option Addr) (n c : Nat) (k : List UInt8) (w : World) (ho : GIn G w w.heap.size o p) (hk : Rd w w.heap.size A n k) :
    Calls Tryd.prog 20 #[ptr p, .slice A n c] w (GetPost (topOf o) k w) := by
  have HU := Lib.hid (upmost_any o p _ w ho)
  have HK := Lib.hid hk
  clear ho hk
  go_enter Tryd.func20, Tryd.ntmps20
  go_wp2_with fail
  refine HU.out.mono ?_
  rintro e w1 ⟨q, rfl, hP, rfl⟩
  have HF := Lib.hid (find_any (topOf o) q _ _ A n c k w hP HK.out)
  clear hP
  go_wp2_with fail
  refine HF.out.mono ?_
  rintro e w1 ⟨q2, rfl, rfl, hr⟩
  rcases hr with ⟨hr, rfl⟩ | ⟨b, v, hr, rfl, hN⟩
  · rw [ptr_none]
    have HR := Lib.hid hr
    clear hr HU HF
    go_wp2_with fail
    go_ret2
    exact .inl ⟨HR.out, rfl, rfl⟩
  · rw [ptr_some]
    obtain ⟨A1, n1, c1, A', n', c', hh⟩ := hN
    have hc := hh.cells.2.1
    have hle := hh.vle
    have hlen := hh.val.len
    have HC := Lib.hid (clone_any A' n' c' v w hh.val (by omega))
    have HR := Lib.hid (And.intro hr (And.intro hle hlen))
    clear hr HU HF hh hle hlen
    go_wp2_with fail
    refine HC.out.mono ?_
    rintro e w2 ⟨A2, n2, c2, rfl, hr2, hnc2, hb2⟩
    have HH := Lib.hid (And.intro hr2 hb2)
    clear hr2 hb2 hc HC
    go_wp2_with fail
    go_ret2
    have h1 := HH.out.1.len
    have h2 := HR.out.2.1
    have h3 := HR.out.2.2
    exact .inr ⟨v, A2, n2, c2, HR.out.1, rfl, HH.out.1, hnc2, by change v.length = n' at h3; omega, HH.out.2⟩

set_option maxRecDepth 100000 in
theorem len_any (o : Option (Option T)) (p : Option Nat) (w : World) (ho : GIn G w w.heap.size o p) (hn : oln (topOf o) ≤ 4294967296) :
    Calls Tryd.prog 21 #[ptr p] w fun e w' => e = .returned (.int .i64 (oln (topOf o) : Nat)) ∧ w = w' := by
  have HU := Lib.hid (upmost_any o p _ w ho)
  clear ho
  generalize topOf o = q at *
  go_enter Tryd.func21, Tryd.ntmps21
  go_wp2_with fail
  refine HU.out.mono ?_
  rintro e w1 ⟨p1, rfl, hP, rfl⟩
  cases q with
  | none =>
    obtain rfl := hP
    rw [ptr_none]
    clear HU
    go_wp2_with fail
    go_ret
    exact ⟨rfl, rfl⟩
  | some t =>
    obtain ⟨b, rfl, hN⟩ := hP
    obtain ⟨A, n, c, A', n', c', x, y, hh⟩ := hN.has
    have hc := hh.cells.2.2.2.1
    change t.n ≤ _ at hn
    have hi : IntKind.i64.wrap (t.n : Int) = (t.n : Int) := IntWalk.i64_in _ (by omega)
    have HE : Hid (oln (some t) = t.n) := Lib.hid rfl
    rw [ptr_some]
    clear HU hh hN hn
    generalize t.n = N at *
    go_wp2_with fail
    go_ret
    exact ⟨by rw [HE.out]; rfl, rfl⟩

theorem one49 (s : List UInt8) : (s.map V8).toArray.all (·.oneCell') = true := all_oneCell_toArray (one_bytes s)
set_option maxRecDepth 100000 in
theorem root_any (o : Option (Option T)) (p : Option Nat) (w : World) (ho : GIn G w w.heap.size o p) (ht : Sh.Tab w 1) (hw : 1 < w.heap.size) :
    Calls Tryd.prog 24 #[ptr p] w fun e w' => e = .returned (.agg (Sh.bcells (osum (topOf o)))) ∧ Below w.heap.size w w' := by
  have hz49 := zero49
  have hb1 : Below w.heap.size w (w.alloc (.cells (zb 32) 49)) := (Below.refl _ _).alloc (Nat.le_refl _) _
  have hs1 : (w.alloc (.cells (zb 32) 49)).heap.size = w.heap.size + 1 := size_alloc _ _
  have HU := Lib.hid (upmost_any o p _ (w.alloc (.cells (zb 32) 49)) (ho.below hb1 (Nat.le_refl _)))
  have HW := Lib.hid (Whole.made w 49 (zb 32))
  have HE := Lib.hid (empty_any (w.alloc (.cells (zb 32) 49)) (Sh.tab_below ht hb1 hw) (by omega))
  have HB1 := Lib.hid hb1
  clear ho ht hb1
  generalize topOf o = q at *
  go_enter Tryd.func24, Tryd.ntmps24
  go_wp2_with fail
  refine HU.out.mono ?_
  rintro e w1 ⟨p1, rfl, hP, rfl⟩
  generalize w.alloc (.cells (zb 32) 49) = w1 at *
  clear hz49 HU
  cases q with
  | none =>
    obtain rfl := hP
    rw [ptr_none]
    go_wp2_with fail
    refine HE.out.mono ?_
    rintro e w2 ⟨rfl, hb2⟩
    have HW2 := Lib.hid (HW.out.below hb2 (by omega))
    have HB2 := Lib.hid (HB1.out.trans (hb2.mono (by omega)))
    clear hb2 HE HW HB1
    obtain ⟨Y, hY⟩ : ∃ Y, Sh.bcells (Sh.Sha.sum []) = Y := ⟨_, rfl⟩
    have hsizeY : Y.size = 32 := by rw [← hY, Sh.bcells_size, Sh.sum_length]
    have honeY : Y.all (·.oneCell') = true := by rw [← hY]; exact Sh.bcells_one _
    rw [hY]
    have HY := Lib.hid hY
    clear hY
    simp only []
    go_step
    refine wpList_store_mid rfl 49 (.tmp 2) (.tmp 12) rfl w.heap.size 0 Y rfl rfl ?_ ?_ honeY ?_
    · rw [hsizeY]; have := HW2.out.there_; rw [zb_size] at this; exact this
    · rw [hsizeY]; exact info49
    have HW8 := Lib.hid (HW2.out.setAll (vs := Y) (by rw [zb_size, hsizeY]))
    have HB8 := Lib.hid (below_setCells w w.heap.size Y.toList 0 HB2.out (by omega))
    generalize w2.setCells w.heap.size 0 Y.toList = w8 at *
    go_wp2_with fail
    refine bodyPost_ret (results_cell1 Tryd.results24 _ _ _ ⟨w.heap.size, 0, none⟩ _ rfl (load_whole HW8.out 49 _ Tryd.underlying49 rfl (by rw [hsizeY]; exact info49))) rfl ⟨by rw [show osum none = Sh.Sha.sum [] from rfl, HY.out], HB8.out⟩
  | some t =>
    obtain ⟨b, rfl, hN⟩ := hP
    obtain ⟨A, n, c, A', n', c', x, y, hh⟩ := hN.has
    have hbl := hh.lt
    have HR := Lib.hid (ncells_srange hh.whole (lsum32 t) (rsum32 t))
    obtain ⟨Y, hY⟩ : ∃ Y, t.sum.map V8 = Y := ⟨_, rfl⟩
    have hsizeY : Y.toArray.size = 32 := by rw [← hY]; exact sumsize t
    have honeY : Y.toArray.all (·.oneCell') = true := by rw [← hY]; exact one49 _
    rw [hY] at HR
    have HY : Hid (Sh.bcells (osum (some t)) = Y.toArray) := Lib.hid (by rw [← hY]; rfl)
    rw [ptr_some]
    clear HE hh hN hY
    go_upto_region 3 with (fail)
    refine wp_region_lit ?_
    iterate 9 go_step
    refine wpList_load_mid rfl 49 (.tmp 10) rfl b 68 rfl _ _ HR.out Tryd.underlying49 rfl (by rw [← List.size_toArray, hsizeY]; exact info49) ?_
    refine wpList_store_mid rfl 49 (.tmp 2) (.tmp 11) rfl w.heap.size 0 Y.toArray rfl rfl ?_ ?_ honeY ?_
    · rw [hsizeY]; have := HW.out.there_; rw [zb_size] at this; exact this
    · rw [hsizeY]; exact info49
    have HW8 := Lib.hid (HW.out.setAll (vs := Y.toArray) (by rw [zb_size, hsizeY]))
    have HB8 := Lib.hid (below_setCells w w.heap.size Y 0 HB1.out (by omega))
    show wpList _ _ _ _ _ (w1.setCells w.heap.size 0 Y)
    change Hid (Whole (w1.setCells w.heap.size 0 Y) _ _ _) at HW8
    generalize w1.setCells w.heap.size 0 Y = w8 at *
    go_wp2_with fail
    refine bodyPost_ret (results_cell1 Tryd.results24 _ _ _ ⟨w.heap.size, 0, none⟩ _ rfl (load_whole HW8.out 49 _ Tryd.underlying49 rfl (by rw [hsizeY]; exact info49))) rfl ⟨by rw [HY.out], HB8.out⟩
end Go.Proofs.YtceillnmcccckaaDoor
