/-
  What told returns: a node as it is answered, of bytes of its own; condition: the node lies in memory. It only makes memory of its own.
-/
import Derived.Test.YtceillnmcccckaaDoorFind
namespace Go.Proofs.YtceillnmcccckaaDoor
open Go.RowKit
open Tr
variable {G : Nat → Prop}

/-- A node that is answered: its bytes lie in blocks that were not there at B. -/
structure Told (w : World) (B : Nat) (t : T) (cs : Array Value) (A : Option Addr) (n c : Nat) (A' : Option Addr) (n' c' : Nat) : Prop where
  eq : cs = (acells (.slice A n c) (.slice A' n' c') t.h t.n t.lsum t.rsum).toArray
  key : Rd w w.heap.size A n t.key
  knc : n ≤ c
  kle : n ≤ 96
  val : Rd w w.heap.size A' n' t.val
  vnc : n' ≤ c'
  vle : n' ≤ 256
  knew : ∀ b o, A = some ⟨b, o, none⟩ → B ≤ b
  vnew : ∀ b o, A' = some ⟨b, o, none⟩ → B ≤ b
def ToldPost (t : T) (w : World) (e : Ending) (w' : World) : Prop := ∃ cs A n c A' n' c', e = .returned (.agg cs) ∧ Told w' w.heap.size t cs A n c A' n' c' ∧ Below w.heap.size w w'

theorem acells_one (A A' : Option Addr) (n c n' c' : Nat) (h : Int) (z : Nat) (l r : List UInt8) : (acells (.slice A n c) (.slice A' n' c') h z l r).toArray.all (·.oneCell') = true := by
  refine all_oneCell_toArray fun u hu => ?_
  simp only [acells, List.mem_cons, List.mem_append] at hu
  rcases hu with rfl | rfl | rfl | rfl | hu | hu
  · rfl
  · rfl
  · rfl
  · rfl
  · exact one_bytes _ u hu
  · exact one_bytes _ u hu
theorem acells_set0 (kv kv' vv : Value) (h : Int) (z : Nat) (l r : List UInt8) : (acells kv vv h z l r).toArray.setIfInBounds 0 kv' = (acells kv' vv h z l r).toArray := rfl
theorem acells_set1 (kv vv vv' : Value) (h : Int) (z : Nat) (l r : List UInt8) : (acells kv vv h z l r).toArray.setIfInBounds 1 vv' = (acells kv vv' h z l r).toArray := rfl

theorem heap_setCells_other (g b : Nat) (hb : b ≠ g) : ∀ (vs : List Value) (o : Nat) (w : World), (w.setCells g o vs).heap[b]? = w.heap[b]? := by
  intro vs
  induction vs with
  | nil => intro o w; rfl
  | cons v r ih => intro o w; exact (ih (o + 1) _).trans (Below.heap_setCell w ⟨g, o, none⟩ v b hb)

set_option maxRecDepth 100000 in
set_option maxHeartbeats 1000000 in
theorem told_any (t : T) (b B : Nat) (w : World) (h : NIn G w B t b) (hB : B ≤ w.heap.size) : Calls Tryd.prog 50 #[ptr (some b)] w (ToldPost t w) := by
  have hz64 := zero64
  obtain ⟨A, n, c, A', n', c', x, y, hh⟩ := h.has
  have hlb : b < w.heap.size := Nat.lt_of_lt_of_le hh.lt hB
  have HH := Lib.hid hh
  clear h hh
  rw [ptr_some]
  go_enter Tryd.func50, Tryd.ntmps50
  go_upto_region 1 with (fail)
  have hb1 : Below w.heap.size w (w.alloc (.cells z64 64)) := (Below.refl _ _).alloc (Nat.le_refl _) _
  have hw1 := Whole.made w 64 z64
  have hs1 : (w.alloc (.cells z64 64)).heap.size = w.heap.size + 1 := size_alloc _ _
  generalize w.alloc (.cells z64 64) = w1 at *
  have HN := Lib.hid (HH.out.below hb1 hB)
  have HW1 := Lib.hid hw1
  have HB1 := Lib.hid hb1
  clear hb1 hw1
  have hl68 : (acells (.slice A n c) (.slice A' n' c') t.h t.n t.lsum t.rsum).length = 68 := acells_len _ _ _ _ _ _ (lsum32 t) (rsum32 t)
  have hz68 : (acells (.slice A n c) (.slice A' n' c') t.h t.n t.lsum t.rsum).toArray.size = 68 := by rw [List.size_toArray, hl68]
  refine wp_region_lit ?_
  iterate 9 go_step
  refine wpList_load_mid rfl 64 (.tmp 6) rfl b 0 rfl _ _ (ncells_arange HN.out.whole) Tryd.underlying64 rfl (by rw [hl68]; exact info64) ?_
  iterate 3 go_step
  clear hz64
  have hw2 := Whole.made w1 64 z64
  rw [hs1] at hw2
  refine wpList_store_mid rfl 64 (.tmp 3) (.tmp 7) rfl (w.heap.size + 1) 0 (acells (.slice A n c) (.slice A' n' c') t.h t.n t.lsum t.rsum).toArray rfl rfl ?_ ?_ (acells_one ..) ?_
  · rw [hz68]; exact hw2.there_
  · rw [hz68]; exact info64
  have hw3 := hw2.setAll (vs := (acells (.slice A n c) (.slice A' n' c') t.h t.n t.lsum t.rsum).toArray) (by rw [hz68]; rfl)
  have hb3 : Below w1.heap.size w1 ((w1.alloc (.cells z64 64)).setCells (w.heap.size + 1) 0 (acells (.slice A n c) (.slice A' n' c') t.h t.n t.lsum t.rsum).toArray.toList) := below_setCells w1 (w.heap.size + 1) _ 0 ((Below.refl _ _).alloc (Nat.le_refl _) _) (by omega)
  generalize (w1.alloc (.cells z64 64)).setCells (w.heap.size + 1) 0 (acells (.slice A n c) (.slice A' n' c') t.h t.n t.lsum t.rsum).toArray.toList = w3 at *
  rw [hs1] at hb3
  have hs3 : w.heap.size + 1 < w3.heap.size := hw3.lt
  have HW3 := Lib.hid hw3
  have HR3 := Lib.hid (HW1.out.below hb3 (Nat.lt_succ_self _))
  have HN3 := Lib.hid (HN.out.below hb3 (by omega))
  have HB3 := Lib.hid (HB1.out.trans (hb3.mono (Nat.le_succ _)))
  clear hw2 hw3 hb3 HN HW1 HB1 HH
  clear hs1
  go_upto_region 2 with (fail)
  have HLEN := Lib.hid (And.intro HN3.out.key.len HN3.out.val.len)
  have hn96 := HN3.out.kle
  have hn256 := HN3.out.vle
  have HW4 : Hid (Whole w3.drew (w.heap.size + 1) 64 _) := Lib.hid HW3.out
  have HR4 : Hid (Whole w3.drew w.heap.size 64 z64) := Lib.hid HR3.out
  have HK4 : Hid (Rd w3.drew w.heap.size A n t.key) := Lib.hid (HN3.out.key.more hB)
  have HV4 : Hid (Rd w3.drew w.heap.size A' n' t.val) := Lib.hid (HN3.out.val.more hB)
  have HB4 := Lib.hid (HB3.out.drew)
  have hs4 : w.heap.size + 1 < w3.drew.heap.size := hs3
  refine wp_region_held_drew (S := fun _ => True) (by kernel_rfl) trivial (fun hHeld => ?_)
  have hHeld := True.intro
  refine wpAnyH_take (i := 0) (oi := { dst := some 8, op := Op.fieldAddr 64 (Operand.tmp 3) 0, type := 0, pos := "node.go:147", after := #[], guard := none }) (v := ?_) rfl (by kernel_rfl) (by kernel_rfl) (by kernel_rfl) (fun _ _ _ h => h) (Or.inl ⟨by rfl, ?_⟩) (by assumption) ?_
  rotate_left
  · first | (intro w hSw; (try dsimp only at hSw); go_simp; done) | (intro w hSw; (try dsimp only at hSw); go_simp; with_reducible rfl)
  simp only [Act.put, List.setIfInBounds_toArray, List.set_cons_zero, List.set_cons_succ]
  refine wpAnyH_take (i := 3) (oi := { dst := some 11, op := Op.fieldAddr 64 (Operand.tmp 3) 1, type := 0, pos := "node.go:147", after := #[], guard := none }) (v := ?_) rfl (by kernel_rfl) (by kernel_rfl) (by kernel_rfl) (fun _ _ _ h => h) (Or.inl ⟨by rfl, ?_⟩) (by assumption) ?_
  rotate_left
  · first | (intro w hSw; (try dsimp only at hSw); go_simp; done) | (intro w hSw; (try dsimp only at hSw); go_simp; with_reducible rfl)
  simp only [Act.put, List.setIfInBounds_toArray, List.set_cons_zero, List.set_cons_succ]
  clear hs3 HW3 HR3 HN3 HB3
  generalize w3.drew = w4 at *
  have k0 : w4.cell? ⟨w.heap.size + 1, 0, none⟩ = some (.slice A n c) := HW4.out.at_ rfl
  have k1 : w4.cell? ⟨w.heap.size + 1, 1, none⟩ = some (.slice A' n' c') := HW4.out.at_ rfl
  have HC1 := Lib.hid (clone_new A n c t.key w4 (HK4.out.more (by omega)) (by omega))
  refine wpAnyH_ready (rs := [1, 4]) (by kernel_rfl) (by simp) ?_
  refine AllReadyH.cons rfl (fun K hK => ?_) (AllReadyH.cons rfl (fun K hK => ?_) AllReadyH.nil)
  · go_simp
    refine hK.out _ _ trivial (fun _ => ?_)
    clear hK K
    refine wpAnyH_ready (rs := [2, 4]) (by kernel_rfl) (by simp) ?_
    refine AllReadyH.cons rfl (fun K hK => ?_) (AllReadyH.cons rfl (fun K hK => ?_) AllReadyH.nil)
    · go_simp
      refine HC1.out.mono ?_
      rintro e w5 ⟨A1, n1, c1, rfl, hr5, hnc1, hnew1, hb5⟩
      have HW5 := Lib.hid (HW4.out.below hb5 hs4)
      have HR5 := Lib.hid (HR4.out.below hb5 (by omega))
      have HV5 := Lib.hid (HV4.out.below hb5 (by omega))
      have hs5 : w4.heap.size ≤ w5.heap.size := hb5.size
      have HB5 := Lib.hid (HB4.out.trans (hb5.mono (by omega)))
      have HK5 := Lib.hid hr5
      have HNEW1 : Hid (∀ b o, A1 = some ⟨b, o, none⟩ → w.heap.size + 1 < b) := Lib.hid (fun b o e => by have := hnew1 b o e; omega)
      have m1 : w5.cell? ⟨w.heap.size + 1, 1, none⟩ = some (.slice A' n' c') := HW5.out.at_ rfl
      refine hK.out _ _ trivial (fun _ => ?_)
      clear hK K HC1 hr5 hnew1 hb5 HW4 HR4 HV4 HB4 HK4 k0 k1
      refine wpAnyH_ready (rs := [4]) (by kernel_rfl) (by simp) ?_
      refine AllReadyH.cons rfl (fun K hK => ?_) AllReadyH.nil
      go_simp
      refine hK.out _ _ trivial (fun _ => ?_)
      clear hK K
      refine wpAnyH_take (i := 6) (oi := { dst := some 14, op := Op.fieldAddr 64 (Operand.tmp 3) 0, type := 0, pos := "node.go:147", after := #[{ on := 0, ground := Ground.phase }, { on := 1, ground := Ground.phase }, { on := 2, ground := Ground.phase }, { on := 3, ground := Ground.phase }, { on := 4, ground := Ground.phase }, { on := 5, ground := Ground.textOnly Departure.lateStoresUnsure }], guard := none }) (v := ?_) rfl (by kernel_rfl) (by kernel_rfl) (by kernel_rfl) (fun _ _ _ h => h) (Or.inl ⟨by rfl, ?_⟩) (by assumption) ?_
      rotate_left
      · first | (intro w hSw; (try dsimp only at hSw); go_simp; done) | (intro w hSw; (try dsimp only at hSw); go_simp; with_reducible rfl)
      simp only [Act.put, List.setIfInBounds_toArray, List.set_cons_zero, List.set_cons_succ]
      clear m1
      have HC2 := Lib.hid (clone_new A' n' c' t.val w5 (HV5.out.more (by omega)) (by omega))
      refine wpAnyH_ready (rs := [5]) (by kernel_rfl) (by simp) ?_
      refine AllReadyH.cons rfl (fun K hK => ?_) AllReadyH.nil
      go_simp
      refine HC2.out.mono ?_
      rintro e w6 ⟨A2, n2, c2, rfl, hr6, hnc2, hnew2, hb6⟩
      have hs6 : w5.heap.size ≤ w6.heap.size := hb6.size
      have hw6 := HW5.out.below hb6 (by omega)
      have HR6 := Lib.hid (HR5.out.below hb6 (by omega))
      have HB6 := Lib.hid (HB5.out.trans (hb6.mono (by omega)))
      have HK6 := Lib.hid ((HK5.out.below hb6 (Nat.le_refl _)).more hs6)
      have HV6 := Lib.hid hr6
      have HNEW2 : Hid (∀ b o, A2 = some ⟨b, o, none⟩ → w.heap.size + 1 < b) := Lib.hid (fun b o e => by have := hnew2 b o e; omega)
      have HW6 := Lib.hid hw6
      refine hK.out _ _ trivial (fun _ => ?_)
      clear hK K HC2 hr6 hnew2 hb6 HW5 HR5 HV5 HB5 HK5 hw6
      have f0 := HW6.out.free 0
      have k0 : w6.cell? ⟨w.heap.size + 1, 0, none⟩ = some (.slice A n c) := HW6.out.at_ rfl
      refine wpAnyH_ready (rs := [7]) (by kernel_rfl) (by simp) ?_
      refine AllReadyH.cons rfl (fun K hK => ?_) AllReadyH.nil
      go_simp
      have hw7 := HW6.out.set 0 (.slice A1 n1 c1)
      rw [acells_set0] at hw7
      have hq7 : ∀ b, b ≠ w.heap.size + 1 → (w6.setCell ⟨w.heap.size + 1, 0, none⟩ (.slice A1 n1 c1)).heap[b]? = w6.heap[b]? := fun b hb => Below.heap_setCell w6 ⟨w.heap.size + 1, 0, none⟩ _ b hb
      have hb7 : Below w.heap.size w (w6.setCell ⟨w.heap.size + 1, 0, none⟩ (.slice A1 n1 c1)) := HB6.out.setCell (Nat.le_succ _) _
      have hz7 : (w6.setCell ⟨w.heap.size + 1, 0, none⟩ (.slice A1 n1 c1)).heap.size = w6.heap.size := by simp
      refine hK.out _ _ trivial (fun _ => ?_)
      clear hK K
      generalize w6.setCell ⟨w.heap.size + 1, 0, none⟩ (.slice A1 n1 c1) = w7 at *
      have HR7 := Lib.hid ((hq7 w.heap.size (by omega)).trans HR6.out)
      have HK7 := Lib.hid (HK6.out.keepG (G := fun b => w.heap.size + 1 < b) (fun _ b o e => HNEW1.out b o e) (fun b _ hg => hq7 b (by omega)))
      have HV7 := Lib.hid (HV6.out.keepG (G := fun b => w.heap.size + 1 < b) (fun _ b o e => HNEW2.out b o e) (fun b _ hg => hq7 b (by omega)))
      have HW7 := Lib.hid hw7
      have HB7 := Lib.hid hb7
      clear f0 k0 hq7 hw7 hb7 HW6 HR6 HB6 HK6 HV6
      refine wpAnyH_take (i := 8) (oi := { dst := some 15, op := Op.fieldAddr 64 (Operand.tmp 3) 1, type := 0, pos := "node.go:147", after := #[{ on := 0, ground := Ground.phase }, { on := 1, ground := Ground.phase }, { on := 2, ground := Ground.phase }, { on := 3, ground := Ground.phase }, { on := 4, ground := Ground.phase }, { on := 5, ground := Ground.phase }, { on := 6, ground := Ground.phase }, { on := 7, ground := Ground.phase }], guard := none }) (v := ?_) rfl (by kernel_rfl) (by kernel_rfl) (by kernel_rfl) (fun _ _ _ h => h) (Or.inl ⟨by rfl, ?_⟩) (by assumption) ?_
      rotate_left
      · first | (intro w hSw; (try dsimp only at hSw); go_simp; done) | (intro w hSw; (try dsimp only at hSw); go_simp; with_reducible rfl)
      simp only [Act.put, List.setIfInBounds_toArray, List.set_cons_zero, List.set_cons_succ]
      have f1 := HW7.out.free 1
      have k1 : w7.cell? ⟨w.heap.size + 1, 1, none⟩ = some (.slice A' n' c') := HW7.out.at_ rfl
      refine wpAnyH_ready (rs := [9]) (by kernel_rfl) (by simp) ?_
      refine AllReadyH.cons rfl (fun K hK => ?_) AllReadyH.nil
      go_simp
      have hw8 := HW7.out.set 1 (.slice A2 n2 c2)
      rw [acells_set1] at hw8
      have hq8 : ∀ b, b ≠ w.heap.size + 1 → (w7.setCell ⟨w.heap.size + 1, 1, none⟩ (.slice A2 n2 c2)).heap[b]? = w7.heap[b]? := fun b hb => Below.heap_setCell w7 ⟨w.heap.size + 1, 1, none⟩ _ b hb
      have hb8 : Below w.heap.size w (w7.setCell ⟨w.heap.size + 1, 1, none⟩ (.slice A2 n2 c2)) := HB7.out.setCell (Nat.le_succ _) _
      have hz8 : (w7.setCell ⟨w.heap.size + 1, 1, none⟩ (.slice A2 n2 c2)).heap.size = w7.heap.size := by simp
      refine hK.out _ _ trivial (fun _ => ?_)
      clear hK K
      generalize w7.setCell ⟨w.heap.size + 1, 1, none⟩ (.slice A2 n2 c2) = w8 at *
      have HR8 : Hid (Whole w8 w.heap.size 64 z64) := Lib.hid ((hq8 w.heap.size (by omega)).trans HR7.out)
      have HK8 := Lib.hid (HK7.out.keepG (G := fun b => w.heap.size + 1 < b) (fun _ b o e => HNEW1.out b o e) (fun b _ hg => hq8 b (by omega)))
      have HV8 := Lib.hid (HV7.out.keepG (G := fun b => w.heap.size + 1 < b) (fun _ b o e => HNEW2.out b o e) (fun b _ hg => hq8 b (by omega)))
      have HW8 := Lib.hid hw8
      have HB8 := Lib.hid hb8
      clear f1 k1 hq8 hw8 hb8 HW7 HR7 HB7 HK7 HV7
      refine wpAnyH_done (by kernel_rfl) ?_ _
      go_upto_region 3 with (fail)
      have hl2 : (acells (.slice A1 n1 c1) (.slice A2 n2 c2) t.h t.n t.lsum t.rsum).length = 68 := acells_len _ _ _ _ _ _ (lsum32 t) (rsum32 t)
      have hz2 : (acells (.slice A1 n1 c1) (.slice A2 n2 c2) t.h t.n t.lsum t.rsum).toArray.size = 68 := by rw [List.size_toArray, hl2]
      refine wp_region_lit ?_
      refine wpList_load_mid rfl 64 (.tmp 3) rfl (w.heap.size + 1) 0 rfl _ _ HW8.out.range Tryd.underlying64 rfl (by rw [hl2]; exact info64) ?_
      refine wpList_store_mid rfl 64 (.tmp 2) (.tmp 16) rfl w.heap.size 0 (acells (.slice A1 n1 c1) (.slice A2 n2 c2) t.h t.n t.lsum t.rsum).toArray rfl rfl ?_ ?_ (acells_one ..) ?_
      · rw [hz2]; exact HR8.out.there_
      · rw [hz2]; exact info64
      have hw9 := HR8.out.setAll (vs := (acells (.slice A1 n1 c1) (.slice A2 n2 c2) t.h t.n t.lsum t.rsum).toArray) (by rw [hz2]; rfl)
      have hb9 := below_setCells w w.heap.size (acells (.slice A1 n1 c1) (.slice A2 n2 c2) t.h t.n t.lsum t.rsum).toArray.toList 0 HB8.out (Nat.le_refl _)
      have hsz9 := size_setCells w.heap.size (acells (.slice A1 n1 c1) (.slice A2 n2 c2) t.h t.n t.lsum t.rsum).toArray.toList 0 w8
      have hbq : ∀ b, b ≠ w.heap.size → (w8.setCells w.heap.size 0 (acells (.slice A1 n1 c1) (.slice A2 n2 c2) t.h t.n t.lsum t.rsum).toArray.toList).heap[b]? = w8.heap[b]? := fun b hb => heap_setCells_other w.heap.size b hb _ 0 w8
      show wpList _ _ _ _ _ (w8.setCells w.heap.size 0 (acells (.slice A1 n1 c1) (.slice A2 n2 c2) t.h t.n t.lsum t.rsum).toArray.toList)
      generalize w8.setCells w.heap.size 0 (acells (.slice A1 n1 c1) (.slice A2 n2 c2) t.h t.n t.lsum t.rsum).toArray.toList = w9 at *
      have HK9 := Lib.hid (HK8.out.keepG (G := fun b => w.heap.size + 1 < b) (fun _ b o e => HNEW1.out b o e) (fun b _ hg => hbq b (by omega)))
      have HV9 := Lib.hid (HV8.out.keepG (G := fun b => w.heap.size + 1 < b) (fun _ b o e => HNEW2.out b o e) (fun b _ hg => hbq b (by omega)))
      have HW9 := Lib.hid hw9
      have HB9 := Lib.hid hb9
      clear hw9 hb9 hbq HW8 HB8 HK8 HV8 HR8
      go_wp2_with fail
      have hk1 := HK9.out.len
      have hk2 := HV9.out.len
      have hk3 := HLEN.out.1
      have hk4 := HLEN.out.2
      refine bodyPost_ret (results_cell1 Tryd.results50 _ _ _ ⟨w.heap.size, 0, none⟩ _ rfl (load_whole HW9.out 64 _ Tryd.underlying64 rfl (by rw [hz2]; exact info64))) rfl ⟨_, A1, n1, c1, A2, n2, c2, rfl, ⟨rfl, HK9.out.more (by omega), hnc1, by omega, HV9.out.more (by omega), hnc2, by omega, fun b o e => by have := HNEW1.out b o e; omega, fun b o e => by have := HNEW2.out b o e; omega⟩, HB9.out⟩
    · go_simp
      refine hK.out _ _ trivial (fun _ => ?_)
      clear hK K
      refine wpAnyH_ready (rs := [2]) (by kernel_rfl) (by simp) ?_
      refine AllReadyH.cons rfl (fun K hK => ?_) AllReadyH.nil
      go_simp
      refine HC1.out.mono ?_
      rintro e w5 ⟨A1, n1, c1, rfl, hr5, hnc1, hnew1, hb5⟩
      have HW5 := Lib.hid (HW4.out.below hb5 hs4)
      have HR5 := Lib.hid (HR4.out.below hb5 (by omega))
      have HV5 := Lib.hid (HV4.out.below hb5 (by omega))
      have hs5 : w4.heap.size ≤ w5.heap.size := hb5.size
      have HB5 := Lib.hid (HB4.out.trans (hb5.mono (by omega)))
      have HK5 := Lib.hid hr5
      have HNEW1 : Hid (∀ b o, A1 = some ⟨b, o, none⟩ → w.heap.size + 1 < b) := Lib.hid (fun b o e => by have := hnew1 b o e; omega)
      have m1 : w5.cell? ⟨w.heap.size + 1, 1, none⟩ = some (.slice A' n' c') := HW5.out.at_ rfl
      refine hK.out _ _ trivial (fun _ => ?_)
      clear hK K HC1 hr5 hnew1 hb5 HW4 HR4 HV4 HB4 HK4 k0 k1
      refine wpAnyH_take (i := 6) (oi := { dst := some 14, op := Op.fieldAddr 64 (Operand.tmp 3) 0, type := 0, pos := "node.go:147", after := #[{ on := 0, ground := Ground.phase }, { on := 1, ground := Ground.phase }, { on := 2, ground := Ground.phase }, { on := 3, ground := Ground.phase }, { on := 4, ground := Ground.phase }, { on := 5, ground := Ground.textOnly Departure.lateStoresUnsure }], guard := none }) (v := ?_) rfl (by kernel_rfl) (by kernel_rfl) (by kernel_rfl) (fun _ _ _ h => h) (Or.inl ⟨by rfl, ?_⟩) (by assumption) ?_
      rotate_left
      · first | (intro w hSw; (try dsimp only at hSw); go_simp; done) | (intro w hSw; (try dsimp only at hSw); go_simp; with_reducible rfl)
      simp only [Act.put, List.setIfInBounds_toArray, List.set_cons_zero, List.set_cons_succ]
      clear m1
      have HC2 := Lib.hid (clone_new A' n' c' t.val w5 (HV5.out.more (by omega)) (by omega))
      refine wpAnyH_ready (rs := [5]) (by kernel_rfl) (by simp) ?_
      refine AllReadyH.cons rfl (fun K hK => ?_) AllReadyH.nil
      go_simp
      refine HC2.out.mono ?_
      rintro e w6 ⟨A2, n2, c2, rfl, hr6, hnc2, hnew2, hb6⟩
      have hs6 : w5.heap.size ≤ w6.heap.size := hb6.size
      have hw6 := HW5.out.below hb6 (by omega)
      have HR6 := Lib.hid (HR5.out.below hb6 (by omega))
      have HB6 := Lib.hid (HB5.out.trans (hb6.mono (by omega)))
      have HK6 := Lib.hid ((HK5.out.below hb6 (Nat.le_refl _)).more hs6)
      have HV6 := Lib.hid hr6
      have HNEW2 : Hid (∀ b o, A2 = some ⟨b, o, none⟩ → w.heap.size + 1 < b) := Lib.hid (fun b o e => by have := hnew2 b o e; omega)
      have HW6 := Lib.hid hw6
      refine hK.out _ _ trivial (fun _ => ?_)
      clear hK K HC2 hr6 hnew2 hb6 HW5 HR5 HV5 HB5 HK5 hw6
      have f0 := HW6.out.free 0
      have k0 : w6.cell? ⟨w.heap.size + 1, 0, none⟩ = some (.slice A n c) := HW6.out.at_ rfl
      refine wpAnyH_ready (rs := [7]) (by kernel_rfl) (by simp) ?_
      refine AllReadyH.cons rfl (fun K hK => ?_) AllReadyH.nil
      go_simp
      have hw7 := HW6.out.set 0 (.slice A1 n1 c1)
      rw [acells_set0] at hw7
      have hq7 : ∀ b, b ≠ w.heap.size + 1 → (w6.setCell ⟨w.heap.size + 1, 0, none⟩ (.slice A1 n1 c1)).heap[b]? = w6.heap[b]? := fun b hb => Below.heap_setCell w6 ⟨w.heap.size + 1, 0, none⟩ _ b hb
      have hb7 : Below w.heap.size w (w6.setCell ⟨w.heap.size + 1, 0, none⟩ (.slice A1 n1 c1)) := HB6.out.setCell (Nat.le_succ _) _
      have hz7 : (w6.setCell ⟨w.heap.size + 1, 0, none⟩ (.slice A1 n1 c1)).heap.size = w6.heap.size := by simp
      refine hK.out _ _ trivial (fun _ => ?_)
      clear hK K
      generalize w6.setCell ⟨w.heap.size + 1, 0, none⟩ (.slice A1 n1 c1) = w7 at *
      have HR7 := Lib.hid ((hq7 w.heap.size (by omega)).trans HR6.out)
      have HK7 := Lib.hid (HK6.out.keepG (G := fun b => w.heap.size + 1 < b) (fun _ b o e => HNEW1.out b o e) (fun b _ hg => hq7 b (by omega)))
      have HV7 := Lib.hid (HV6.out.keepG (G := fun b => w.heap.size + 1 < b) (fun _ b o e => HNEW2.out b o e) (fun b _ hg => hq7 b (by omega)))
      have HW7 := Lib.hid hw7
      have HB7 := Lib.hid hb7
      clear f0 k0 hq7 hw7 hb7 HW6 HR6 HB6 HK6 HV6
      refine wpAnyH_take (i := 8) (oi := { dst := some 15, op := Op.fieldAddr 64 (Operand.tmp 3) 1, type := 0, pos := "node.go:147", after := #[{ on := 0, ground := Ground.phase }, { on := 1, ground := Ground.phase }, { on := 2, ground := Ground.phase }, { on := 3, ground := Ground.phase }, { on := 4, ground := Ground.phase }, { on := 5, ground := Ground.phase }, { on := 6, ground := Ground.phase }, { on := 7, ground := Ground.phase }], guard := none }) (v := ?_) rfl (by kernel_rfl) (by kernel_rfl) (by kernel_rfl) (fun _ _ _ h => h) (Or.inl ⟨by rfl, ?_⟩) (by assumption) ?_
      rotate_left
      · first | (intro w hSw; (try dsimp only at hSw); go_simp; done) | (intro w hSw; (try dsimp only at hSw); go_simp; with_reducible rfl)
      simp only [Act.put, List.setIfInBounds_toArray, List.set_cons_zero, List.set_cons_succ]
      have f1 := HW7.out.free 1
      have k1 : w7.cell? ⟨w.heap.size + 1, 1, none⟩ = some (.slice A' n' c') := HW7.out.at_ rfl
      refine wpAnyH_ready (rs := [9]) (by kernel_rfl) (by simp) ?_
      refine AllReadyH.cons rfl (fun K hK => ?_) AllReadyH.nil
      go_simp
      have hw8 := HW7.out.set 1 (.slice A2 n2 c2)
      rw [acells_set1] at hw8
      have hq8 : ∀ b, b ≠ w.heap.size + 1 → (w7.setCell ⟨w.heap.size + 1, 1, none⟩ (.slice A2 n2 c2)).heap[b]? = w7.heap[b]? := fun b hb => Below.heap_setCell w7 ⟨w.heap.size + 1, 1, none⟩ _ b hb
      have hb8 : Below w.heap.size w (w7.setCell ⟨w.heap.size + 1, 1, none⟩ (.slice A2 n2 c2)) := HB7.out.setCell (Nat.le_succ _) _
      have hz8 : (w7.setCell ⟨w.heap.size + 1, 1, none⟩ (.slice A2 n2 c2)).heap.size = w7.heap.size := by simp
      refine hK.out _ _ trivial (fun _ => ?_)
      clear hK K
      generalize w7.setCell ⟨w.heap.size + 1, 1, none⟩ (.slice A2 n2 c2) = w8 at *
      have HR8 : Hid (Whole w8 w.heap.size 64 z64) := Lib.hid ((hq8 w.heap.size (by omega)).trans HR7.out)
      have HK8 := Lib.hid (HK7.out.keepG (G := fun b => w.heap.size + 1 < b) (fun _ b o e => HNEW1.out b o e) (fun b _ hg => hq8 b (by omega)))
      have HV8 := Lib.hid (HV7.out.keepG (G := fun b => w.heap.size + 1 < b) (fun _ b o e => HNEW2.out b o e) (fun b _ hg => hq8 b (by omega)))
      have HW8 := Lib.hid hw8
      have HB8 := Lib.hid hb8
      clear f1 k1 hq8 hw8 hb8 HW7 HR7 HB7 HK7 HV7
      refine wpAnyH_done (by kernel_rfl) ?_ _
      go_upto_region 3 with (fail)
      have hl2 : (acells (.slice A1 n1 c1) (.slice A2 n2 c2) t.h t.n t.lsum t.rsum).length = 68 := acells_len _ _ _ _ _ _ (lsum32 t) (rsum32 t)
      have hz2 : (acells (.slice A1 n1 c1) (.slice A2 n2 c2) t.h t.n t.lsum t.rsum).toArray.size = 68 := by rw [List.size_toArray, hl2]
      refine wp_region_lit ?_
      refine wpList_load_mid rfl 64 (.tmp 3) rfl (w.heap.size + 1) 0 rfl _ _ HW8.out.range Tryd.underlying64 rfl (by rw [hl2]; exact info64) ?_
      refine wpList_store_mid rfl 64 (.tmp 2) (.tmp 16) rfl w.heap.size 0 (acells (.slice A1 n1 c1) (.slice A2 n2 c2) t.h t.n t.lsum t.rsum).toArray rfl rfl ?_ ?_ (acells_one ..) ?_
      · rw [hz2]; exact HR8.out.there_
      · rw [hz2]; exact info64
      have hw9 := HR8.out.setAll (vs := (acells (.slice A1 n1 c1) (.slice A2 n2 c2) t.h t.n t.lsum t.rsum).toArray) (by rw [hz2]; rfl)
      have hb9 := below_setCells w w.heap.size (acells (.slice A1 n1 c1) (.slice A2 n2 c2) t.h t.n t.lsum t.rsum).toArray.toList 0 HB8.out (Nat.le_refl _)
      have hsz9 := size_setCells w.heap.size (acells (.slice A1 n1 c1) (.slice A2 n2 c2) t.h t.n t.lsum t.rsum).toArray.toList 0 w8
      have hbq : ∀ b, b ≠ w.heap.size → (w8.setCells w.heap.size 0 (acells (.slice A1 n1 c1) (.slice A2 n2 c2) t.h t.n t.lsum t.rsum).toArray.toList).heap[b]? = w8.heap[b]? := fun b hb => heap_setCells_other w.heap.size b hb _ 0 w8
      show wpList _ _ _ _ _ (w8.setCells w.heap.size 0 (acells (.slice A1 n1 c1) (.slice A2 n2 c2) t.h t.n t.lsum t.rsum).toArray.toList)
      generalize w8.setCells w.heap.size 0 (acells (.slice A1 n1 c1) (.slice A2 n2 c2) t.h t.n t.lsum t.rsum).toArray.toList = w9 at *
      have HK9 := Lib.hid (HK8.out.keepG (G := fun b => w.heap.size + 1 < b) (fun _ b o e => HNEW1.out b o e) (fun b _ hg => hbq b (by omega)))
      have HV9 := Lib.hid (HV8.out.keepG (G := fun b => w.heap.size + 1 < b) (fun _ b o e => HNEW2.out b o e) (fun b _ hg => hbq b (by omega)))
      have HW9 := Lib.hid hw9
      have HB9 := Lib.hid hb9
      clear hw9 hb9 hbq HW8 HB8 HK8 HV8 HR8
      go_wp2_with fail
      have hk1 := HK9.out.len
      have hk2 := HV9.out.len
      have hk3 := HLEN.out.1
      have hk4 := HLEN.out.2
      refine bodyPost_ret (results_cell1 Tryd.results50 _ _ _ ⟨w.heap.size, 0, none⟩ _ rfl (load_whole HW9.out 64 _ Tryd.underlying64 rfl (by rw [hz2]; exact info64))) rfl ⟨_, A1, n1, c1, A2, n2, c2, rfl, ⟨rfl, HK9.out.more (by omega), hnc1, by omega, HV9.out.more (by omega), hnc2, by omega, fun b o e => by have := HNEW1.out b o e; omega, fun b o e => by have := HNEW2.out b o e; omega⟩, HB9.out⟩
  · go_simp
    refine hK.out _ _ trivial (fun _ => ?_)
    clear hK K
    refine wpAnyH_ready (rs := [1]) (by kernel_rfl) (by simp) ?_
    refine AllReadyH.cons rfl (fun K hK => ?_) AllReadyH.nil
    go_simp
    refine hK.out _ _ trivial (fun _ => ?_)
    clear hK K
    refine wpAnyH_ready (rs := [2]) (by kernel_rfl) (by simp) ?_
    refine AllReadyH.cons rfl (fun K hK => ?_) AllReadyH.nil
    go_simp
    refine HC1.out.mono ?_
    rintro e w5 ⟨A1, n1, c1, rfl, hr5, hnc1, hnew1, hb5⟩
    have HW5 := Lib.hid (HW4.out.below hb5 hs4)
    have HR5 := Lib.hid (HR4.out.below hb5 (by omega))
    have HV5 := Lib.hid (HV4.out.below hb5 (by omega))
    have hs5 : w4.heap.size ≤ w5.heap.size := hb5.size
    have HB5 := Lib.hid (HB4.out.trans (hb5.mono (by omega)))
    have HK5 := Lib.hid hr5
    have HNEW1 : Hid (∀ b o, A1 = some ⟨b, o, none⟩ → w.heap.size + 1 < b) := Lib.hid (fun b o e => by have := hnew1 b o e; omega)
    have m1 : w5.cell? ⟨w.heap.size + 1, 1, none⟩ = some (.slice A' n' c') := HW5.out.at_ rfl
    refine hK.out _ _ trivial (fun _ => ?_)
    clear hK K HC1 hr5 hnew1 hb5 HW4 HR4 HV4 HB4 HK4 k0 k1
    refine wpAnyH_take (i := 6) (oi := { dst := some 14, op := Op.fieldAddr 64 (Operand.tmp 3) 0, type := 0, pos := "node.go:147", after := #[{ on := 0, ground := Ground.phase }, { on := 1, ground := Ground.phase }, { on := 2, ground := Ground.phase }, { on := 3, ground := Ground.phase }, { on := 4, ground := Ground.phase }, { on := 5, ground := Ground.textOnly Departure.lateStoresUnsure }], guard := none }) (v := ?_) rfl (by kernel_rfl) (by kernel_rfl) (by kernel_rfl) (fun _ _ _ h => h) (Or.inl ⟨by rfl, ?_⟩) (by assumption) ?_
    rotate_left
    · first | (intro w hSw; (try dsimp only at hSw); go_simp; done) | (intro w hSw; (try dsimp only at hSw); go_simp; with_reducible rfl)
    simp only [Act.put, List.setIfInBounds_toArray, List.set_cons_zero, List.set_cons_succ]
    clear m1
    have HC2 := Lib.hid (clone_new A' n' c' t.val w5 (HV5.out.more (by omega)) (by omega))
    refine wpAnyH_ready (rs := [5]) (by kernel_rfl) (by simp) ?_
    refine AllReadyH.cons rfl (fun K hK => ?_) AllReadyH.nil
    go_simp
    refine HC2.out.mono ?_
    rintro e w6 ⟨A2, n2, c2, rfl, hr6, hnc2, hnew2, hb6⟩
    have hs6 : w5.heap.size ≤ w6.heap.size := hb6.size
    have hw6 := HW5.out.below hb6 (by omega)
    have HR6 := Lib.hid (HR5.out.below hb6 (by omega))
    have HB6 := Lib.hid (HB5.out.trans (hb6.mono (by omega)))
    have HK6 := Lib.hid ((HK5.out.below hb6 (Nat.le_refl _)).more hs6)
    have HV6 := Lib.hid hr6
    have HNEW2 : Hid (∀ b o, A2 = some ⟨b, o, none⟩ → w.heap.size + 1 < b) := Lib.hid (fun b o e => by have := hnew2 b o e; omega)
    have HW6 := Lib.hid hw6
    refine hK.out _ _ trivial (fun _ => ?_)
    clear hK K HC2 hr6 hnew2 hb6 HW5 HR5 HV5 HB5 HK5 hw6
    have f0 := HW6.out.free 0
    have k0 : w6.cell? ⟨w.heap.size + 1, 0, none⟩ = some (.slice A n c) := HW6.out.at_ rfl
    refine wpAnyH_ready (rs := [7]) (by kernel_rfl) (by simp) ?_
    refine AllReadyH.cons rfl (fun K hK => ?_) AllReadyH.nil
    go_simp
    have hw7 := HW6.out.set 0 (.slice A1 n1 c1)
    rw [acells_set0] at hw7
    have hq7 : ∀ b, b ≠ w.heap.size + 1 → (w6.setCell ⟨w.heap.size + 1, 0, none⟩ (.slice A1 n1 c1)).heap[b]? = w6.heap[b]? := fun b hb => Below.heap_setCell w6 ⟨w.heap.size + 1, 0, none⟩ _ b hb
    have hb7 : Below w.heap.size w (w6.setCell ⟨w.heap.size + 1, 0, none⟩ (.slice A1 n1 c1)) := HB6.out.setCell (Nat.le_succ _) _
    have hz7 : (w6.setCell ⟨w.heap.size + 1, 0, none⟩ (.slice A1 n1 c1)).heap.size = w6.heap.size := by simp
    refine hK.out _ _ trivial (fun _ => ?_)
    clear hK K
    generalize w6.setCell ⟨w.heap.size + 1, 0, none⟩ (.slice A1 n1 c1) = w7 at *
    have HR7 := Lib.hid ((hq7 w.heap.size (by omega)).trans HR6.out)
    have HK7 := Lib.hid (HK6.out.keepG (G := fun b => w.heap.size + 1 < b) (fun _ b o e => HNEW1.out b o e) (fun b _ hg => hq7 b (by omega)))
    have HV7 := Lib.hid (HV6.out.keepG (G := fun b => w.heap.size + 1 < b) (fun _ b o e => HNEW2.out b o e) (fun b _ hg => hq7 b (by omega)))
    have HW7 := Lib.hid hw7
    have HB7 := Lib.hid hb7
    clear f0 k0 hq7 hw7 hb7 HW6 HR6 HB6 HK6 HV6
    refine wpAnyH_take (i := 8) (oi := { dst := some 15, op := Op.fieldAddr 64 (Operand.tmp 3) 1, type := 0, pos := "node.go:147", after := #[{ on := 0, ground := Ground.phase }, { on := 1, ground := Ground.phase }, { on := 2, ground := Ground.phase }, { on := 3, ground := Ground.phase }, { on := 4, ground := Ground.phase }, { on := 5, ground := Ground.phase }, { on := 6, ground := Ground.phase }, { on := 7, ground := Ground.phase }], guard := none }) (v := ?_) rfl (by kernel_rfl) (by kernel_rfl) (by kernel_rfl) (fun _ _ _ h => h) (Or.inl ⟨by rfl, ?_⟩) (by assumption) ?_
    rotate_left
    · first | (intro w hSw; (try dsimp only at hSw); go_simp; done) | (intro w hSw; (try dsimp only at hSw); go_simp; with_reducible rfl)
    simp only [Act.put, List.setIfInBounds_toArray, List.set_cons_zero, List.set_cons_succ]
    have f1 := HW7.out.free 1
    have k1 : w7.cell? ⟨w.heap.size + 1, 1, none⟩ = some (.slice A' n' c') := HW7.out.at_ rfl
    refine wpAnyH_ready (rs := [9]) (by kernel_rfl) (by simp) ?_
    refine AllReadyH.cons rfl (fun K hK => ?_) AllReadyH.nil
    go_simp
    have hw8 := HW7.out.set 1 (.slice A2 n2 c2)
    rw [acells_set1] at hw8
    have hq8 : ∀ b, b ≠ w.heap.size + 1 → (w7.setCell ⟨w.heap.size + 1, 1, none⟩ (.slice A2 n2 c2)).heap[b]? = w7.heap[b]? := fun b hb => Below.heap_setCell w7 ⟨w.heap.size + 1, 1, none⟩ _ b hb
    have hb8 : Below w.heap.size w (w7.setCell ⟨w.heap.size + 1, 1, none⟩ (.slice A2 n2 c2)) := HB7.out.setCell (Nat.le_succ _) _
    have hz8 : (w7.setCell ⟨w.heap.size + 1, 1, none⟩ (.slice A2 n2 c2)).heap.size = w7.heap.size := by simp
    refine hK.out _ _ trivial (fun _ => ?_)
    clear hK K
    generalize w7.setCell ⟨w.heap.size + 1, 1, none⟩ (.slice A2 n2 c2) = w8 at *
    have HR8 : Hid (Whole w8 w.heap.size 64 z64) := Lib.hid ((hq8 w.heap.size (by omega)).trans HR7.out)
    have HK8 := Lib.hid (HK7.out.keepG (G := fun b => w.heap.size + 1 < b) (fun _ b o e => HNEW1.out b o e) (fun b _ hg => hq8 b (by omega)))
    have HV8 := Lib.hid (HV7.out.keepG (G := fun b => w.heap.size + 1 < b) (fun _ b o e => HNEW2.out b o e) (fun b _ hg => hq8 b (by omega)))
    have HW8 := Lib.hid hw8
    have HB8 := Lib.hid hb8
    clear f1 k1 hq8 hw8 hb8 HW7 HR7 HB7 HK7 HV7
    refine wpAnyH_done (by kernel_rfl) ?_ _
    go_upto_region 3 with (fail)
    have hl2 : (acells (.slice A1 n1 c1) (.slice A2 n2 c2) t.h t.n t.lsum t.rsum).length = 68 := acells_len _ _ _ _ _ _ (lsum32 t) (rsum32 t)
    have hz2 : (acells (.slice A1 n1 c1) (.slice A2 n2 c2) t.h t.n t.lsum t.rsum).toArray.size = 68 := by rw [List.size_toArray, hl2]
    refine wp_region_lit ?_
    refine wpList_load_mid rfl 64 (.tmp 3) rfl (w.heap.size + 1) 0 rfl _ _ HW8.out.range Tryd.underlying64 rfl (by rw [hl2]; exact info64) ?_
    refine wpList_store_mid rfl 64 (.tmp 2) (.tmp 16) rfl w.heap.size 0 (acells (.slice A1 n1 c1) (.slice A2 n2 c2) t.h t.n t.lsum t.rsum).toArray rfl rfl ?_ ?_ (acells_one ..) ?_
    · rw [hz2]; exact HR8.out.there_
    · rw [hz2]; exact info64
    have hw9 := HR8.out.setAll (vs := (acells (.slice A1 n1 c1) (.slice A2 n2 c2) t.h t.n t.lsum t.rsum).toArray) (by rw [hz2]; rfl)
    have hb9 := below_setCells w w.heap.size (acells (.slice A1 n1 c1) (.slice A2 n2 c2) t.h t.n t.lsum t.rsum).toArray.toList 0 HB8.out (Nat.le_refl _)
    have hsz9 := size_setCells w.heap.size (acells (.slice A1 n1 c1) (.slice A2 n2 c2) t.h t.n t.lsum t.rsum).toArray.toList 0 w8
    have hbq : ∀ b, b ≠ w.heap.size → (w8.setCells w.heap.size 0 (acells (.slice A1 n1 c1) (.slice A2 n2 c2) t.h t.n t.lsum t.rsum).toArray.toList).heap[b]? = w8.heap[b]? := fun b hb => heap_setCells_other w.heap.size b hb _ 0 w8
    show wpList _ _ _ _ _ (w8.setCells w.heap.size 0 (acells (.slice A1 n1 c1) (.slice A2 n2 c2) t.h t.n t.lsum t.rsum).toArray.toList)
    generalize w8.setCells w.heap.size 0 (acells (.slice A1 n1 c1) (.slice A2 n2 c2) t.h t.n t.lsum t.rsum).toArray.toList = w9 at *
    have HK9 := Lib.hid (HK8.out.keepG (G := fun b => w.heap.size + 1 < b) (fun _ b o e => HNEW1.out b o e) (fun b _ hg => hbq b (by omega)))
    have HV9 := Lib.hid (HV8.out.keepG (G := fun b => w.heap.size + 1 < b) (fun _ b o e => HNEW2.out b o e) (fun b _ hg => hbq b (by omega)))
    have HW9 := Lib.hid hw9
    have HB9 := Lib.hid hb9
    clear hw9 hb9 hbq HW8 HB8 HK8 HV8 HR8
    go_wp2_with fail
    have hk1 := HK9.out.len
    have hk2 := HV9.out.len
    have hk3 := HLEN.out.1
    have hk4 := HLEN.out.2
    refine bodyPost_ret (results_cell1 Tryd.results50 _ _ _ ⟨w.heap.size, 0, none⟩ _ rfl (load_whole HW9.out 64 _ Tryd.underlying64 rfl (by rw [hz2]; exact info64))) rfl ⟨_, A1, n1, c1, A2, n2, c2, rfl, ⟨rfl, HK9.out.more (by omega), hnc1, by omega, HV9.out.more (by omega), hnc2, by omega, fun b o e => by have := HNEW1.out b o e; omega, fun b o e => by have := HNEW2.out b o e; omega⟩, HB9.out⟩
end Go.Proofs.YtceillnmcccckaaDoor
