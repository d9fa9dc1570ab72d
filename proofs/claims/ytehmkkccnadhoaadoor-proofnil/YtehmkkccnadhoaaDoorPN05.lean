/-
  What find and without return: the leaf of a key, and a tree without it; conditions: tree and key lie in memory, there are no more than 4294967296 leaves, the table holds its words. find changes nothing, without only makes memory of its own.
  What told returns: a node as it is answered, of bytes of its own; condition: the node lies in memory. It only makes memory of its own.
  What a tree's Put, Cut, Get, Root, Len return; conditions: tree and bytes lie in memory, there are fewer than 4294967296 leaves, the table holds its words. They only make memory of their own.
  What a tree's Node returns: the node to which a way leads; conditions: tree and way lie in memory. It only makes memory of its own.
  A law of my own for a region that draws its order: a condition on memory that holds behind every operation but the late ones (a store at the region's end), and what is read under it is taken first, if every late operation waits for it: no condition.
  What visit does: it calls a closure at each node, the upmost first, each one's left side ahead of its right one; condition: the tree lies in memory, the closure's contract.
  The fixed fact of the laws: Awake returns true; condition: the table holds its words. It only makes memory of its own.
  What SameNode returns for two nodes that read alike: true; and All, Nodes of a nil or an empty tree: nothing; conditions: their bytes are read.
  A struct's literal of any parts: the cells that it has; no condition but the places and the zero value of its type.
  Turns and proofs as plain data and in memory; turnAt: the turn at a node; conditions: sums have 32 bytes. It only makes memory of its own.
-/
import Derived.Lib.ConvBytes
import Derived.Test.YtehmkkccnadhoaaDoorPN04
namespace Go.Proofs.YtehmkkccnadhoaaDoor
open Go.RowKit
open Tr
variable {G : Nat → Prop}

end Go.Proofs.YtehmkkccnadhoaaDoor
namespace Go.Proofs.YtehmkkccnadhoaaDoor
open Go.RowKit
open Tr
variable {G : Nat → Prop}

/-- A node that is answered: its bytes lie in blocks that were not there at B. -/
structure Told (w : World) (B : Nat) (t : T) (cs : Array Value) (A : Option Addr) (n c : Nat) (A' : Option Addr) (n' c' : Nat) : Prop where
  eq : cs = (acells (.slice A n c) (.slice A' n' c') t.h t.n t.lsum t.rsum).toArray
  key : Rd w w.heap.size A n t.key
  knc : n ≤ c
  kle : n ≤ 96
  val : Rd w w.heap.size A' n' t.val
  vnc : n' ≤ c'
  vle : n' ≤ 256
  knew : Fresh B w A
  vnew : Fresh B w A'
def ToldPost (t : T) (w : World) (e : Ending) (w' : World) : Prop := ∃ cs A n c A' n' c', e = .returned (.agg cs) ∧ Told w' w.heap.size t cs A n c A' n' c' ∧ Below w.heap.size w w'

theorem acells_one (A A' : Option Addr) (n c n' c' : Nat) (h : Int) (z : Nat) (l r : List UInt8) : (acells (.slice A n c) (.slice A' n' c') h z l r).toArray.all (·.oneCell') = true := by
  refine all_oneCell_toArray fun u hu => ?_
  simp only [acells, List.mem_cons, List.mem_append] at hu
  rcases hu with rfl | rfl | rfl | rfl | hu | hu
  · rfl
  · rfl
  · rfl
  · rfl
  · exact one_bytes _ u hu
  · exact one_bytes _ u hu
theorem acells_set0 (kv kv' vv : Value) (h : Int) (z : Nat) (l r : List UInt8) : (acells kv vv h z l r).toArray.setIfInBounds 0 kv' = (acells kv' vv h z l r).toArray := rfl
theorem acells_set1 (kv vv vv' : Value) (h : Int) (z : Nat) (l r : List UInt8) : (acells kv vv h z l r).toArray.setIfInBounds 1 vv' = (acells kv vv' h z l r).toArray := rfl

theorem heap_setCells_other (g b : Nat) (hb : b ≠ g) : ∀ (vs : List Value) (o : Nat) (w : World), (w.setCells g o vs).heap[b]? = w.heap[b]? := by
  intro vs
  induction vs with
  | nil => intro o w; rfl
  | cons v r ih => intro o w; exact (ih (o + 1) _).trans (Below.heap_setCell w ⟨g, o, none⟩ v b hb)

set_option maxRecDepth 100000 in
set_option maxHeartbeats 1000000 in
theorem told_any (t : T) (b B : Nat) (w : World) (h : NIn G w B t b) (hB : B ≤ w.heap.size) : Calls Tryd.prog 60 #[ptr (some b)] w (ToldPost t w) := by
  have hz64 := zero64
  obtain ⟨A, n, c, A', n', c', x, y, hh⟩ := h.has
  have hlb : b < w.heap.size := Nat.lt_of_lt_of_le hh.lt hB
  have HH := Lib.hid hh
  clear h hh
  rw [ptr_some]
  go_enter Tryd.func60, Tryd.ntmps60
  go_upto_region 1 with (fail)
  have hb1 : Below w.heap.size w (w.alloc (.cells z64 67)) := (Below.refl _ _).alloc (Nat.le_refl _) _
  have hw1 := Whole.made w 67 z64
  have hs1 : (w.alloc (.cells z64 67)).heap.size = w.heap.size + 1 := size_alloc _ _
  generalize w.alloc (.cells z64 67) = w1 at *
  have HN := Lib.hid (HH.out.below hb1 hB)
  have HW1 := Lib.hid hw1
  have HB1 := Lib.hid hb1
  clear hb1 hw1
  have hl68 : (acells (.slice A n c) (.slice A' n' c') t.h t.n t.lsum t.rsum).length = 68 := acells_len _ _ _ _ _ _ (lsum32 t) (rsum32 t)
  have hz68 : (acells (.slice A n c) (.slice A' n' c') t.h t.n t.lsum t.rsum).toArray.size = 68 := by rw [List.size_toArray, hl68]
  refine wp_region_lit ?_
  iterate 9 go_step
  refine wpList_load_mid rfl 67 (.tmp 6) rfl b 0 rfl _ _ (ncells_arange HN.out.whole) Tryd.underlying67 rfl (by rw [hl68]; exact info64) ?_
  iterate 3 go_step
  clear hz64
  have hw2 := Whole.made w1 67 z64
  rw [hs1] at hw2
  refine wpList_store_mid rfl 67 (.tmp 3) (.tmp 7) rfl (w.heap.size + 1) 0 (acells (.slice A n c) (.slice A' n' c') t.h t.n t.lsum t.rsum).toArray rfl rfl ?_ ?_ (acells_one ..) ?_
  · rw [hz68]; exact hw2.there_
  · rw [hz68]; exact info64
  have hw3 := hw2.setAll (vs := (acells (.slice A n c) (.slice A' n' c') t.h t.n t.lsum t.rsum).toArray) (by rw [hz68]; rfl)
  have hb3 : Below w1.heap.size w1 ((w1.alloc (.cells z64 67)).setCells (w.heap.size + 1) 0 (acells (.slice A n c) (.slice A' n' c') t.h t.n t.lsum t.rsum).toArray.toList) := below_setCells w1 (w.heap.size + 1) _ 0 ((Below.refl _ _).alloc (Nat.le_refl _) _) (by omega)
  generalize (w1.alloc (.cells z64 67)).setCells (w.heap.size + 1) 0 (acells (.slice A n c) (.slice A' n' c') t.h t.n t.lsum t.rsum).toArray.toList = w3 at *
  rw [hs1] at hb3
  have hs3 : w.heap.size + 1 < w3.heap.size := hw3.lt
  have HW3 := Lib.hid hw3
  have HR3 := Lib.hid (HW1.out.below hb3 (Nat.lt_succ_self _))
  have HN3 := Lib.hid (HN.out.below hb3 (by omega))
  have HB3 := Lib.hid (HB1.out.trans (hb3.mono (Nat.le_succ _)))
  clear hw2 hw3 hb3 HN HW1 HB1 HH
  clear hs1
  go_upto_region 2 with (fail)
  have HLEN := Lib.hid (And.intro HN3.out.key.len HN3.out.val.len)
  have hn96 := HN3.out.kle
  have hn256 := HN3.out.vle
  have HW4 : Hid (Whole w3.drew (w.heap.size + 1) 67 _) := Lib.hid HW3.out
  have HR4 : Hid (Whole w3.drew w.heap.size 67 z64) := Lib.hid HR3.out
  have HK4 : Hid (Rd w3.drew w.heap.size A n t.key) := Lib.hid (HN3.out.key.more hB)
  have HV4 : Hid (Rd w3.drew w.heap.size A' n' t.val) := Lib.hid (HN3.out.val.more hB)
  have HB4 := Lib.hid (HB3.out.drew)
  have hs4 : w.heap.size + 1 < w3.drew.heap.size := hs3
  refine wp_region_held_drew (S := fun _ => True) (by kernel_rfl) trivial (fun hHeld => ?_)
  have hHeld := True.intro
  refine wpAnyH_take (i := 0) (oi := { dst := some 8, op := Op.fieldAddr 67 (Operand.tmp 3) 0, type := 0, pos := "node.go:147", after := #[], guard := none }) (v := ?_) rfl (by kernel_rfl) (by kernel_rfl) (by kernel_rfl) (fun _ _ _ h => h) (Or.inl ⟨by rfl, ?_⟩) (by assumption) ?_
  rotate_left
  · first | (intro w hSw; (try dsimp only at hSw); go_simp; done) | (intro w hSw; (try dsimp only at hSw); go_simp; with_reducible rfl)
  simp only [Act.put, List.setIfInBounds_toArray, List.set_cons_zero, List.set_cons_succ]
  refine wpAnyH_take (i := 3) (oi := { dst := some 11, op := Op.fieldAddr 67 (Operand.tmp 3) 1, type := 0, pos := "node.go:147", after := #[], guard := none }) (v := ?_) rfl (by kernel_rfl) (by kernel_rfl) (by kernel_rfl) (fun _ _ _ h => h) (Or.inl ⟨by rfl, ?_⟩) (by assumption) ?_
  rotate_left
  · first | (intro w hSw; (try dsimp only at hSw); go_simp; done) | (intro w hSw; (try dsimp only at hSw); go_simp; with_reducible rfl)
  simp only [Act.put, List.setIfInBounds_toArray, List.set_cons_zero, List.set_cons_succ]
  clear hs3 HW3 HR3 HN3 HB3
  generalize w3.drew = w4 at *
  have k0 : w4.cell? ⟨w.heap.size + 1, 0, none⟩ = some (.slice A n c) := HW4.out.at_ rfl
  have k1 : w4.cell? ⟨w.heap.size + 1, 1, none⟩ = some (.slice A' n' c') := HW4.out.at_ rfl
  have HC1 := Lib.hid (clone_new A n c t.key w4 (HK4.out.more (by omega)) (by omega))
  refine wpAnyH_ready (rs := [1, 4]) (by kernel_rfl) (by simp) ?_
  refine AllReadyH.cons rfl (fun K hK => ?_) (AllReadyH.cons rfl (fun K hK => ?_) AllReadyH.nil)
  · go_simp
    refine hK.out _ _ trivial (fun _ => ?_)
    clear hK K
    refine wpAnyH_ready (rs := [2, 4]) (by kernel_rfl) (by simp) ?_
    refine AllReadyH.cons rfl (fun K hK => ?_) (AllReadyH.cons rfl (fun K hK => ?_) AllReadyH.nil)
    · go_simp
      refine HC1.out.mono ?_
      rintro e w5 ⟨A1, n1, c1, rfl, hr5, hnc1, hnew1, hb5⟩
      have HW5 := Lib.hid (HW4.out.below hb5 hs4)
      have HR5 := Lib.hid (HR4.out.below hb5 (by omega))
      have HV5 := Lib.hid (HV4.out.below hb5 (by omega))
      have hs5 : w4.heap.size ≤ w5.heap.size := hb5.size
      have HB5 := Lib.hid (HB4.out.trans (hb5.mono (by omega)))
      have HK5 := Lib.hid hr5
      have HNEW1 : Hid (Fresh (w.heap.size + 2) w5 A1) := Lib.hid (hnew1.less (by omega))
      have m1 : w5.cell? ⟨w.heap.size + 1, 1, none⟩ = some (.slice A' n' c') := HW5.out.at_ rfl
      refine hK.out _ _ trivial (fun _ => ?_)
      clear hK K HC1 hr5 hnew1 hb5 HW4 HR4 HV4 HB4 HK4 k0 k1
      refine wpAnyH_ready (rs := [4]) (by kernel_rfl) (by simp) ?_
      refine AllReadyH.cons rfl (fun K hK => ?_) AllReadyH.nil
      go_simp
      refine hK.out _ _ trivial (fun _ => ?_)
      clear hK K
      refine wpAnyH_take (i := 6) (oi := { dst := some 14, op := Op.fieldAddr 67 (Operand.tmp 3) 0, type := 0, pos := "node.go:147", after := #[{ on := 0, ground := Ground.phase }, { on := 1, ground := Ground.phase }, { on := 2, ground := Ground.phase }, { on := 3, ground := Ground.phase }, { on := 4, ground := Ground.phase }, { on := 5, ground := Ground.textOnly Departure.lateStoresUnsure }], guard := none }) (v := ?_) rfl (by kernel_rfl) (by kernel_rfl) (by kernel_rfl) (fun _ _ _ h => h) (Or.inl ⟨by rfl, ?_⟩) (by assumption) ?_
      rotate_left
      · first | (intro w hSw; (try dsimp only at hSw); go_simp; done) | (intro w hSw; (try dsimp only at hSw); go_simp; with_reducible rfl)
      simp only [Act.put, List.setIfInBounds_toArray, List.set_cons_zero, List.set_cons_succ]
      clear m1
      have HC2 := Lib.hid (clone_new A' n' c' t.val w5 (HV5.out.more (by omega)) (by omega))
      refine wpAnyH_ready (rs := [5]) (by kernel_rfl) (by simp) ?_
      refine AllReadyH.cons rfl (fun K hK => ?_) AllReadyH.nil
      go_simp
      refine HC2.out.mono ?_
      rintro e w6 ⟨A2, n2, c2, rfl, hr6, hnc2, hnew2, hb6⟩
      have hs6 : w5.heap.size ≤ w6.heap.size := hb6.size
      have hw6 := HW5.out.below hb6 (by omega)
      have HR6 := Lib.hid (HR5.out.below hb6 (by omega))
      have HB6 := Lib.hid (HB5.out.trans (hb6.mono (by omega)))
      have HK6 := Lib.hid ((HK5.out.below hb6 (Nat.le_refl _)).more hs6)
      have HV6 := Lib.hid hr6
      have HNEW2 : Hid (Fresh (w.heap.size + 2) w6 A2) := Lib.hid (hnew2.less (by omega))
      have HNEW1 := Lib.hid (HNEW1.out.below hb6 (Nat.le_refl _))
      have HW6 := Lib.hid hw6
      refine hK.out _ _ trivial (fun _ => ?_)
      clear hK K HC2 hr6 hnew2 hb6 HW5 HR5 HV5 HB5 HK5 hw6
      have f0 := HW6.out.free 0
      have k0 : w6.cell? ⟨w.heap.size + 1, 0, none⟩ = some (.slice A n c) := HW6.out.at_ rfl
      refine wpAnyH_ready (rs := [7]) (by kernel_rfl) (by simp) ?_
      refine AllReadyH.cons rfl (fun K hK => ?_) AllReadyH.nil
      go_simp
      have hw7 := HW6.out.set 0 (.slice A1 n1 c1)
      rw [acells_set0] at hw7
      have hq7 : ∀ b, b ≠ w.heap.size + 1 → (w6.setCell ⟨w.heap.size + 1, 0, none⟩ (.slice A1 n1 c1)).heap[b]? = w6.heap[b]? := fun b hb => Below.heap_setCell w6 ⟨w.heap.size + 1, 0, none⟩ _ b hb
      have hb7 : Below w.heap.size w (w6.setCell ⟨w.heap.size + 1, 0, none⟩ (.slice A1 n1 c1)) := HB6.out.setCell (Nat.le_succ _) _
      have hz7 : (w6.setCell ⟨w.heap.size + 1, 0, none⟩ (.slice A1 n1 c1)).heap.size = w6.heap.size := by simp
      refine hK.out _ _ trivial (fun _ => ?_)
      clear hK K
      generalize w6.setCell ⟨w.heap.size + 1, 0, none⟩ (.slice A1 n1 c1) = w7 at *
      have HR7 := Lib.hid ((hq7 w.heap.size (by omega)).trans HR6.out)
      have HK7 := Lib.hid (HK6.out.keepG (G := fun b => w.heap.size + 1 < b) (fun _ b o e => (HNEW1.out b o e).1) (fun b _ hg => hq7 b (by omega)))
      have HV7 := Lib.hid (HV6.out.keepG (G := fun b => w.heap.size + 1 < b) (fun _ b o e => (HNEW2.out b o e).1) (fun b _ hg => hq7 b (by omega)))
      have HNEW1 := Lib.hid (HNEW1.out.keep (fun b h _ => hq7 b (by omega)) (Nat.le_of_eq hz7.symm))
      have HNEW2 := Lib.hid (HNEW2.out.keep (fun b h _ => hq7 b (by omega)) (Nat.le_of_eq hz7.symm))
      have HW7 := Lib.hid hw7
      have HB7 := Lib.hid hb7
      clear f0 k0 hq7 hw7 hb7 HW6 HR6 HB6 HK6 HV6
      refine wpAnyH_take (i := 8) (oi := { dst := some 15, op := Op.fieldAddr 67 (Operand.tmp 3) 1, type := 0, pos := "node.go:147", after := #[{ on := 0, ground := Ground.phase }, { on := 1, ground := Ground.phase }, { on := 2, ground := Ground.phase }, { on := 3, ground := Ground.phase }, { on := 4, ground := Ground.phase }, { on := 5, ground := Ground.phase }, { on := 6, ground := Ground.phase }, { on := 7, ground := Ground.phase }], guard := none }) (v := ?_) rfl (by kernel_rfl) (by kernel_rfl) (by kernel_rfl) (fun _ _ _ h => h) (Or.inl ⟨by rfl, ?_⟩) (by assumption) ?_
      rotate_left
      · first | (intro w hSw; (try dsimp only at hSw); go_simp; done) | (intro w hSw; (try dsimp only at hSw); go_simp; with_reducible rfl)
      simp only [Act.put, List.setIfInBounds_toArray, List.set_cons_zero, List.set_cons_succ]
      have f1 := HW7.out.free 1
      have k1 : w7.cell? ⟨w.heap.size + 1, 1, none⟩ = some (.slice A' n' c') := HW7.out.at_ rfl
      refine wpAnyH_ready (rs := [9]) (by kernel_rfl) (by simp) ?_
      refine AllReadyH.cons rfl (fun K hK => ?_) AllReadyH.nil
      go_simp
      have hw8 := HW7.out.set 1 (.slice A2 n2 c2)
      rw [acells_set1] at hw8
      have hq8 : ∀ b, b ≠ w.heap.size + 1 → (w7.setCell ⟨w.heap.size + 1, 1, none⟩ (.slice A2 n2 c2)).heap[b]? = w7.heap[b]? := fun b hb => Below.heap_setCell w7 ⟨w.heap.size + 1, 1, none⟩ _ b hb
      have hb8 : Below w.heap.size w (w7.setCell ⟨w.heap.size + 1, 1, none⟩ (.slice A2 n2 c2)) := HB7.out.setCell (Nat.le_succ _) _
      have hz8 : (w7.setCell ⟨w.heap.size + 1, 1, none⟩ (.slice A2 n2 c2)).heap.size = w7.heap.size := by simp
      refine hK.out _ _ trivial (fun _ => ?_)
      clear hK K
      generalize w7.setCell ⟨w.heap.size + 1, 1, none⟩ (.slice A2 n2 c2) = w8 at *
      have HR8 : Hid (Whole w8 w.heap.size 67 z64) := Lib.hid ((hq8 w.heap.size (by omega)).trans HR7.out)
      have HK8 := Lib.hid (HK7.out.keepG (G := fun b => w.heap.size + 1 < b) (fun _ b o e => (HNEW1.out b o e).1) (fun b _ hg => hq8 b (by omega)))
      have HV8 := Lib.hid (HV7.out.keepG (G := fun b => w.heap.size + 1 < b) (fun _ b o e => (HNEW2.out b o e).1) (fun b _ hg => hq8 b (by omega)))
      have HNEW1 := Lib.hid (HNEW1.out.keep (fun b h _ => hq8 b (by omega)) (Nat.le_of_eq hz8.symm))
      have HNEW2 := Lib.hid (HNEW2.out.keep (fun b h _ => hq8 b (by omega)) (Nat.le_of_eq hz8.symm))
      have HW8 := Lib.hid hw8
      have HB8 := Lib.hid hb8
      clear f1 k1 hq8 hw8 hb8 HW7 HR7 HB7 HK7 HV7
      refine wpAnyH_done (by kernel_rfl) ?_ _
      go_upto_region 3 with (fail)
      have hl2 : (acells (.slice A1 n1 c1) (.slice A2 n2 c2) t.h t.n t.lsum t.rsum).length = 68 := acells_len _ _ _ _ _ _ (lsum32 t) (rsum32 t)
      have hz2 : (acells (.slice A1 n1 c1) (.slice A2 n2 c2) t.h t.n t.lsum t.rsum).toArray.size = 68 := by rw [List.size_toArray, hl2]
      refine wp_region_lit ?_
      refine wpList_load_mid rfl 67 (.tmp 3) rfl (w.heap.size + 1) 0 rfl _ _ HW8.out.range Tryd.underlying67 rfl (by rw [hl2]; exact info64) ?_
      refine wpList_store_mid rfl 67 (.tmp 2) (.tmp 16) rfl w.heap.size 0 (acells (.slice A1 n1 c1) (.slice A2 n2 c2) t.h t.n t.lsum t.rsum).toArray rfl rfl ?_ ?_ (acells_one ..) ?_
      · rw [hz2]; exact HR8.out.there_
      · rw [hz2]; exact info64
      have hw9 := HR8.out.setAll (vs := (acells (.slice A1 n1 c1) (.slice A2 n2 c2) t.h t.n t.lsum t.rsum).toArray) (by rw [hz2]; rfl)
      have hb9 := below_setCells w w.heap.size (acells (.slice A1 n1 c1) (.slice A2 n2 c2) t.h t.n t.lsum t.rsum).toArray.toList 0 HB8.out (Nat.le_refl _)
      have hsz9 := size_setCells w.heap.size (acells (.slice A1 n1 c1) (.slice A2 n2 c2) t.h t.n t.lsum t.rsum).toArray.toList 0 w8
      have hbq : ∀ b, b ≠ w.heap.size → (w8.setCells w.heap.size 0 (acells (.slice A1 n1 c1) (.slice A2 n2 c2) t.h t.n t.lsum t.rsum).toArray.toList).heap[b]? = w8.heap[b]? := fun b hb => heap_setCells_other w.heap.size b hb _ 0 w8
      show wpList _ _ _ _ _ (w8.setCells w.heap.size 0 (acells (.slice A1 n1 c1) (.slice A2 n2 c2) t.h t.n t.lsum t.rsum).toArray.toList)
      generalize w8.setCells w.heap.size 0 (acells (.slice A1 n1 c1) (.slice A2 n2 c2) t.h t.n t.lsum t.rsum).toArray.toList = w9 at *
      have HK9 := Lib.hid (HK8.out.keepG (G := fun b => w.heap.size + 1 < b) (fun _ b o e => (HNEW1.out b o e).1) (fun b _ hg => hbq b (by omega)))
      have HV9 := Lib.hid (HV8.out.keepG (G := fun b => w.heap.size + 1 < b) (fun _ b o e => (HNEW2.out b o e).1) (fun b _ hg => hbq b (by omega)))
      have HNEW1 := Lib.hid (HNEW1.out.keep (fun b h _ => hbq b (by omega)) (Nat.le_of_eq hsz9.symm))
      have HNEW2 := Lib.hid (HNEW2.out.keep (fun b h _ => hbq b (by omega)) (Nat.le_of_eq hsz9.symm))
      have HW9 := Lib.hid hw9
      have HB9 := Lib.hid hb9
      clear hw9 hb9 hbq HW8 HB8 HK8 HV8 HR8
      go_wp2_with fail
      have hk1 := HK9.out.len
      have hk2 := HV9.out.len
      have hk3 := HLEN.out.1
      have hk4 := HLEN.out.2
      refine bodyPost_ret (results_cell1 Tryd.results60 _ _ _ ⟨w.heap.size, 0, none⟩ _ rfl (load_whole HW9.out 67 _ Tryd.underlying67 rfl (by rw [hz2]; exact info64))) rfl ⟨_, A1, n1, c1, A2, n2, c2, rfl, ⟨rfl, HK9.out.more (by omega), hnc1, by omega, HV9.out.more (by omega), hnc2, by omega, HNEW1.out.less (by omega), HNEW2.out.less (by omega)⟩, HB9.out⟩
    · go_simp
      refine hK.out _ _ trivial (fun _ => ?_)
      clear hK K
      refine wpAnyH_ready (rs := [2]) (by kernel_rfl) (by simp) ?_
      refine AllReadyH.cons rfl (fun K hK => ?_) AllReadyH.nil
      go_simp
      refine HC1.out.mono ?_
      rintro e w5 ⟨A1, n1, c1, rfl, hr5, hnc1, hnew1, hb5⟩
      have HW5 := Lib.hid (HW4.out.below hb5 hs4)
      have HR5 := Lib.hid (HR4.out.below hb5 (by omega))
      have HV5 := Lib.hid (HV4.out.below hb5 (by omega))
      have hs5 : w4.heap.size ≤ w5.heap.size := hb5.size
      have HB5 := Lib.hid (HB4.out.trans (hb5.mono (by omega)))
      have HK5 := Lib.hid hr5
      have HNEW1 : Hid (Fresh (w.heap.size + 2) w5 A1) := Lib.hid (hnew1.less (by omega))
      have m1 : w5.cell? ⟨w.heap.size + 1, 1, none⟩ = some (.slice A' n' c') := HW5.out.at_ rfl
      refine hK.out _ _ trivial (fun _ => ?_)
      clear hK K HC1 hr5 hnew1 hb5 HW4 HR4 HV4 HB4 HK4 k0 k1
      refine wpAnyH_take (i := 6) (oi := { dst := some 14, op := Op.fieldAddr 67 (Operand.tmp 3) 0, type := 0, pos := "node.go:147", after := #[{ on := 0, ground := Ground.phase }, { on := 1, ground := Ground.phase }, { on := 2, ground := Ground.phase }, { on := 3, ground := Ground.phase }, { on := 4, ground := Ground.phase }, { on := 5, ground := Ground.textOnly Departure.lateStoresUnsure }], guard := none }) (v := ?_) rfl (by kernel_rfl) (by kernel_rfl) (by kernel_rfl) (fun _ _ _ h => h) (Or.inl ⟨by rfl, ?_⟩) (by assumption) ?_
      rotate_left
      · first | (intro w hSw; (try dsimp only at hSw); go_simp; done) | (intro w hSw; (try dsimp only at hSw); go_simp; with_reducible rfl)
      simp only [Act.put, List.setIfInBounds_toArray, List.set_cons_zero, List.set_cons_succ]
      clear m1
      have HC2 := Lib.hid (clone_new A' n' c' t.val w5 (HV5.out.more (by omega)) (by omega))
      refine wpAnyH_ready (rs := [5]) (by kernel_rfl) (by simp) ?_
      refine AllReadyH.cons rfl (fun K hK => ?_) AllReadyH.nil
      go_simp
      refine HC2.out.mono ?_
      rintro e w6 ⟨A2, n2, c2, rfl, hr6, hnc2, hnew2, hb6⟩
      have hs6 : w5.heap.size ≤ w6.heap.size := hb6.size
      have hw6 := HW5.out.below hb6 (by omega)
      have HR6 := Lib.hid (HR5.out.below hb6 (by omega))
      have HB6 := Lib.hid (HB5.out.trans (hb6.mono (by omega)))
      have HK6 := Lib.hid ((HK5.out.below hb6 (Nat.le_refl _)).more hs6)
      have HV6 := Lib.hid hr6
      have HNEW2 : Hid (Fresh (w.heap.size + 2) w6 A2) := Lib.hid (hnew2.less (by omega))
      have HNEW1 := Lib.hid (HNEW1.out.below hb6 (Nat.le_refl _))
      have HW6 := Lib.hid hw6
      refine hK.out _ _ trivial (fun _ => ?_)
      clear hK K HC2 hr6 hnew2 hb6 HW5 HR5 HV5 HB5 HK5 hw6
      have f0 := HW6.out.free 0
      have k0 : w6.cell? ⟨w.heap.size + 1, 0, none⟩ = some (.slice A n c) := HW6.out.at_ rfl
      refine wpAnyH_ready (rs := [7]) (by kernel_rfl) (by simp) ?_
      refine AllReadyH.cons rfl (fun K hK => ?_) AllReadyH.nil
      go_simp
      have hw7 := HW6.out.set 0 (.slice A1 n1 c1)
      rw [acells_set0] at hw7
      have hq7 : ∀ b, b ≠ w.heap.size + 1 → (w6.setCell ⟨w.heap.size + 1, 0, none⟩ (.slice A1 n1 c1)).heap[b]? = w6.heap[b]? := fun b hb => Below.heap_setCell w6 ⟨w.heap.size + 1, 0, none⟩ _ b hb
      have hb7 : Below w.heap.size w (w6.setCell ⟨w.heap.size + 1, 0, none⟩ (.slice A1 n1 c1)) := HB6.out.setCell (Nat.le_succ _) _
      have hz7 : (w6.setCell ⟨w.heap.size + 1, 0, none⟩ (.slice A1 n1 c1)).heap.size = w6.heap.size := by simp
      refine hK.out _ _ trivial (fun _ => ?_)
      clear hK K
      generalize w6.setCell ⟨w.heap.size + 1, 0, none⟩ (.slice A1 n1 c1) = w7 at *
      have HR7 := Lib.hid ((hq7 w.heap.size (by omega)).trans HR6.out)
      have HK7 := Lib.hid (HK6.out.keepG (G := fun b => w.heap.size + 1 < b) (fun _ b o e => (HNEW1.out b o e).1) (fun b _ hg => hq7 b (by omega)))
      have HV7 := Lib.hid (HV6.out.keepG (G := fun b => w.heap.size + 1 < b) (fun _ b o e => (HNEW2.out b o e).1) (fun b _ hg => hq7 b (by omega)))
      have HNEW1 := Lib.hid (HNEW1.out.keep (fun b h _ => hq7 b (by omega)) (Nat.le_of_eq hz7.symm))
      have HNEW2 := Lib.hid (HNEW2.out.keep (fun b h _ => hq7 b (by omega)) (Nat.le_of_eq hz7.symm))
      have HW7 := Lib.hid hw7
      have HB7 := Lib.hid hb7
      clear f0 k0 hq7 hw7 hb7 HW6 HR6 HB6 HK6 HV6
      refine wpAnyH_take (i := 8) (oi := { dst := some 15, op := Op.fieldAddr 67 (Operand.tmp 3) 1, type := 0, pos := "node.go:147", after := #[{ on := 0, ground := Ground.phase }, { on := 1, ground := Ground.phase }, { on := 2, ground := Ground.phase }, { on := 3, ground := Ground.phase }, { on := 4, ground := Ground.phase }, { on := 5, ground := Ground.phase }, { on := 6, ground := Ground.phase }, { on := 7, ground := Ground.phase }], guard := none }) (v := ?_) rfl (by kernel_rfl) (by kernel_rfl) (by kernel_rfl) (fun _ _ _ h => h) (Or.inl ⟨by rfl, ?_⟩) (by assumption) ?_
      rotate_left
      · first | (intro w hSw; (try dsimp only at hSw); go_simp; done) | (intro w hSw; (try dsimp only at hSw); go_simp; with_reducible rfl)
      simp only [Act.put, List.setIfInBounds_toArray, List.set_cons_zero, List.set_cons_succ]
      have f1 := HW7.out.free 1
      have k1 : w7.cell? ⟨w.heap.size + 1, 1, none⟩ = some (.slice A' n' c') := HW7.out.at_ rfl
      refine wpAnyH_ready (rs := [9]) (by kernel_rfl) (by simp) ?_
      refine AllReadyH.cons rfl (fun K hK => ?_) AllReadyH.nil
      go_simp
      have hw8 := HW7.out.set 1 (.slice A2 n2 c2)
      rw [acells_set1] at hw8
      have hq8 : ∀ b, b ≠ w.heap.size + 1 → (w7.setCell ⟨w.heap.size + 1, 1, none⟩ (.slice A2 n2 c2)).heap[b]? = w7.heap[b]? := fun b hb => Below.heap_setCell w7 ⟨w.heap.size + 1, 1, none⟩ _ b hb
      have hb8 : Below w.heap.size w (w7.setCell ⟨w.heap.size + 1, 1, none⟩ (.slice A2 n2 c2)) := HB7.out.setCell (Nat.le_succ _) _
      have hz8 : (w7.setCell ⟨w.heap.size + 1, 1, none⟩ (.slice A2 n2 c2)).heap.size = w7.heap.size := by simp
      refine hK.out _ _ trivial (fun _ => ?_)
      clear hK K
      generalize w7.setCell ⟨w.heap.size + 1, 1, none⟩ (.slice A2 n2 c2) = w8 at *
      have HR8 : Hid (Whole w8 w.heap.size 67 z64) := Lib.hid ((hq8 w.heap.size (by omega)).trans HR7.out)
      have HK8 := Lib.hid (HK7.out.keepG (G := fun b => w.heap.size + 1 < b) (fun _ b o e => (HNEW1.out b o e).1) (fun b _ hg => hq8 b (by omega)))
      have HV8 := Lib.hid (HV7.out.keepG (G := fun b => w.heap.size + 1 < b) (fun _ b o e => (HNEW2.out b o e).1) (fun b _ hg => hq8 b (by omega)))
      have HNEW1 := Lib.hid (HNEW1.out.keep (fun b h _ => hq8 b (by omega)) (Nat.le_of_eq hz8.symm))
      have HNEW2 := Lib.hid (HNEW2.out.keep (fun b h _ => hq8 b (by omega)) (Nat.le_of_eq hz8.symm))
      have HW8 := Lib.hid hw8
      have HB8 := Lib.hid hb8
      clear f1 k1 hq8 hw8 hb8 HW7 HR7 HB7 HK7 HV7
      refine wpAnyH_done (by kernel_rfl) ?_ _
      go_upto_region 3 with (fail)
      have hl2 : (acells (.slice A1 n1 c1) (.slice A2 n2 c2) t.h t.n t.lsum t.rsum).length = 68 := acells_len _ _ _ _ _ _ (lsum32 t) (rsum32 t)
      have hz2 : (acells (.slice A1 n1 c1) (.slice A2 n2 c2) t.h t.n t.lsum t.rsum).toArray.size = 68 := by rw [List.size_toArray, hl2]
      refine wp_region_lit ?_
      refine wpList_load_mid rfl 67 (.tmp 3) rfl (w.heap.size + 1) 0 rfl _ _ HW8.out.range Tryd.underlying67 rfl (by rw [hl2]; exact info64) ?_
      refine wpList_store_mid rfl 67 (.tmp 2) (.tmp 16) rfl w.heap.size 0 (acells (.slice A1 n1 c1) (.slice A2 n2 c2) t.h t.n t.lsum t.rsum).toArray rfl rfl ?_ ?_ (acells_one ..) ?_
      · rw [hz2]; exact HR8.out.there_
      · rw [hz2]; exact info64
      have hw9 := HR8.out.setAll (vs := (acells (.slice A1 n1 c1) (.slice A2 n2 c2) t.h t.n t.lsum t.rsum).toArray) (by rw [hz2]; rfl)
      have hb9 := below_setCells w w.heap.size (acells (.slice A1 n1 c1) (.slice A2 n2 c2) t.h t.n t.lsum t.rsum).toArray.toList 0 HB8.out (Nat.le_refl _)
      have hsz9 := size_setCells w.heap.size (acells (.slice A1 n1 c1) (.slice A2 n2 c2) t.h t.n t.lsum t.rsum).toArray.toList 0 w8
      have hbq : ∀ b, b ≠ w.heap.size → (w8.setCells w.heap.size 0 (acells (.slice A1 n1 c1) (.slice A2 n2 c2) t.h t.n t.lsum t.rsum).toArray.toList).heap[b]? = w8.heap[b]? := fun b hb => heap_setCells_other w.heap.size b hb _ 0 w8
      show wpList _ _ _ _ _ (w8.setCells w.heap.size 0 (acells (.slice A1 n1 c1) (.slice A2 n2 c2) t.h t.n t.lsum t.rsum).toArray.toList)
      generalize w8.setCells w.heap.size 0 (acells (.slice A1 n1 c1) (.slice A2 n2 c2) t.h t.n t.lsum t.rsum).toArray.toList = w9 at *
      have HK9 := Lib.hid (HK8.out.keepG (G := fun b => w.heap.size + 1 < b) (fun _ b o e => (HNEW1.out b o e).1) (fun b _ hg => hbq b (by omega)))
      have HV9 := Lib.hid (HV8.out.keepG (G := fun b => w.heap.size + 1 < b) (fun _ b o e => (HNEW2.out b o e).1) (fun b _ hg => hbq b (by omega)))
      have HNEW1 := Lib.hid (HNEW1.out.keep (fun b h _ => hbq b (by omega)) (Nat.le_of_eq hsz9.symm))
      have HNEW2 := Lib.hid (HNEW2.out.keep (fun b h _ => hbq b (by omega)) (Nat.le_of_eq hsz9.symm))
      have HW9 := Lib.hid hw9
      have HB9 := Lib.hid hb9
      clear hw9 hb9 hbq HW8 HB8 HK8 HV8 HR8
      go_wp2_with fail
      have hk1 := HK9.out.len
      have hk2 := HV9.out.len
      have hk3 := HLEN.out.1
      have hk4 := HLEN.out.2
      refine bodyPost_ret (results_cell1 Tryd.results60 _ _ _ ⟨w.heap.size, 0, none⟩ _ rfl (load_whole HW9.out 67 _ Tryd.underlying67 rfl (by rw [hz2]; exact info64))) rfl ⟨_, A1, n1, c1, A2, n2, c2, rfl, ⟨rfl, HK9.out.more (by omega), hnc1, by omega, HV9.out.more (by omega), hnc2, by omega, HNEW1.out.less (by omega), HNEW2.out.less (by omega)⟩, HB9.out⟩
  · go_simp
    refine hK.out _ _ trivial (fun _ => ?_)
    clear hK K
    refine wpAnyH_ready (rs := [1]) (by kernel_rfl) (by simp) ?_
    refine AllReadyH.cons rfl (fun K hK => ?_) AllReadyH.nil
    go_simp
    refine hK.out _ _ trivial (fun _ => ?_)
    clear hK K
    refine wpAnyH_ready (rs := [2]) (by kernel_rfl) (by simp) ?_
    refine AllReadyH.cons rfl (fun K hK => ?_) AllReadyH.nil
    go_simp
    refine HC1.out.mono ?_
    rintro e w5 ⟨A1, n1, c1, rfl, hr5, hnc1, hnew1, hb5⟩
    have HW5 := Lib.hid (HW4.out.below hb5 hs4)
    have HR5 := Lib.hid (HR4.out.below hb5 (by omega))
    have HV5 := Lib.hid (HV4.out.below hb5 (by omega))
    have hs5 : w4.heap.size ≤ w5.heap.size := hb5.size
    have HB5 := Lib.hid (HB4.out.trans (hb5.mono (by omega)))
    have HK5 := Lib.hid hr5
    have HNEW1 : Hid (Fresh (w.heap.size + 2) w5 A1) := Lib.hid (hnew1.less (by omega))
    have m1 : w5.cell? ⟨w.heap.size + 1, 1, none⟩ = some (.slice A' n' c') := HW5.out.at_ rfl
    refine hK.out _ _ trivial (fun _ => ?_)
    clear hK K HC1 hr5 hnew1 hb5 HW4 HR4 HV4 HB4 HK4 k0 k1
    refine wpAnyH_take (i := 6) (oi := { dst := some 14, op := Op.fieldAddr 67 (Operand.tmp 3) 0, type := 0, pos := "node.go:147", after := #[{ on := 0, ground := Ground.phase }, { on := 1, ground := Ground.phase }, { on := 2, ground := Ground.phase }, { on := 3, ground := Ground.phase }, { on := 4, ground := Ground.phase }, { on := 5, ground := Ground.textOnly Departure.lateStoresUnsure }], guard := none }) (v := ?_) rfl (by kernel_rfl) (by kernel_rfl) (by kernel_rfl) (fun _ _ _ h => h) (Or.inl ⟨by rfl, ?_⟩) (by assumption) ?_
    rotate_left
    · first | (intro w hSw; (try dsimp only at hSw); go_simp; done) | (intro w hSw; (try dsimp only at hSw); go_simp; with_reducible rfl)
    simp only [Act.put, List.setIfInBounds_toArray, List.set_cons_zero, List.set_cons_succ]
    clear m1
    have HC2 := Lib.hid (clone_new A' n' c' t.val w5 (HV5.out.more (by omega)) (by omega))
    refine wpAnyH_ready (rs := [5]) (by kernel_rfl) (by simp) ?_
    refine AllReadyH.cons rfl (fun K hK => ?_) AllReadyH.nil
    go_simp
    refine HC2.out.mono ?_
    rintro e w6 ⟨A2, n2, c2, rfl, hr6, hnc2, hnew2, hb6⟩
    have hs6 : w5.heap.size ≤ w6.heap.size := hb6.size
    have hw6 := HW5.out.below hb6 (by omega)
    have HR6 := Lib.hid (HR5.out.below hb6 (by omega))
    have HB6 := Lib.hid (HB5.out.trans (hb6.mono (by omega)))
    have HK6 := Lib.hid ((HK5.out.below hb6 (Nat.le_refl _)).more hs6)
    have HV6 := Lib.hid hr6
    have HNEW2 : Hid (Fresh (w.heap.size + 2) w6 A2) := Lib.hid (hnew2.less (by omega))
    have HNEW1 := Lib.hid (HNEW1.out.below hb6 (Nat.le_refl _))
    have HW6 := Lib.hid hw6
    refine hK.out _ _ trivial (fun _ => ?_)
    clear hK K HC2 hr6 hnew2 hb6 HW5 HR5 HV5 HB5 HK5 hw6
    have f0 := HW6.out.free 0
    have k0 : w6.cell? ⟨w.heap.size + 1, 0, none⟩ = some (.slice A n c) := HW6.out.at_ rfl
    refine wpAnyH_ready (rs := [7]) (by kernel_rfl) (by simp) ?_
    refine AllReadyH.cons rfl (fun K hK => ?_) AllReadyH.nil
    go_simp
    have hw7 := HW6.out.set 0 (.slice A1 n1 c1)
    rw [acells_set0] at hw7
    have hq7 : ∀ b, b ≠ w.heap.size + 1 → (w6.setCell ⟨w.heap.size + 1, 0, none⟩ (.slice A1 n1 c1)).heap[b]? = w6.heap[b]? := fun b hb => Below.heap_setCell w6 ⟨w.heap.size + 1, 0, none⟩ _ b hb
    have hb7 : Below w.heap.size w (w6.setCell ⟨w.heap.size + 1, 0, none⟩ (.slice A1 n1 c1)) := HB6.out.setCell (Nat.le_succ _) _
    have hz7 : (w6.setCell ⟨w.heap.size + 1, 0, none⟩ (.slice A1 n1 c1)).heap.size = w6.heap.size := by simp
    refine hK.out _ _ trivial (fun _ => ?_)
    clear hK K
    generalize w6.setCell ⟨w.heap.size + 1, 0, none⟩ (.slice A1 n1 c1) = w7 at *
    have HR7 := Lib.hid ((hq7 w.heap.size (by omega)).trans HR6.out)
    have HK7 := Lib.hid (HK6.out.keepG (G := fun b => w.heap.size + 1 < b) (fun _ b o e => (HNEW1.out b o e).1) (fun b _ hg => hq7 b (by omega)))
    have HV7 := Lib.hid (HV6.out.keepG (G := fun b => w.heap.size + 1 < b) (fun _ b o e => (HNEW2.out b o e).1) (fun b _ hg => hq7 b (by omega)))
    have HNEW1 := Lib.hid (HNEW1.out.keep (fun b h _ => hq7 b (by omega)) (Nat.le_of_eq hz7.symm))
    have HNEW2 := Lib.hid (HNEW2.out.keep (fun b h _ => hq7 b (by omega)) (Nat.le_of_eq hz7.symm))
    have HW7 := Lib.hid hw7
    have HB7 := Lib.hid hb7
    clear f0 k0 hq7 hw7 hb7 HW6 HR6 HB6 HK6 HV6
    refine wpAnyH_take (i := 8) (oi := { dst := some 15, op := Op.fieldAddr 67 (Operand.tmp 3) 1, type := 0, pos := "node.go:147", after := #[{ on := 0, ground := Ground.phase }, { on := 1, ground := Ground.phase }, { on := 2, ground := Ground.phase }, { on := 3, ground := Ground.phase }, { on := 4, ground := Ground.phase }, { on := 5, ground := Ground.phase }, { on := 6, ground := Ground.phase }, { on := 7, ground := Ground.phase }], guard := none }) (v := ?_) rfl (by kernel_rfl) (by kernel_rfl) (by kernel_rfl) (fun _ _ _ h => h) (Or.inl ⟨by rfl, ?_⟩) (by assumption) ?_
    rotate_left
    · first | (intro w hSw; (try dsimp only at hSw); go_simp; done) | (intro w hSw; (try dsimp only at hSw); go_simp; with_reducible rfl)
    simp only [Act.put, List.setIfInBounds_toArray, List.set_cons_zero, List.set_cons_succ]
    have f1 := HW7.out.free 1
    have k1 : w7.cell? ⟨w.heap.size + 1, 1, none⟩ = some (.slice A' n' c') := HW7.out.at_ rfl
    refine wpAnyH_ready (rs := [9]) (by kernel_rfl) (by simp) ?_
    refine AllReadyH.cons rfl (fun K hK => ?_) AllReadyH.nil
    go_simp
    have hw8 := HW7.out.set 1 (.slice A2 n2 c2)
    rw [acells_set1] at hw8
    have hq8 : ∀ b, b ≠ w.heap.size + 1 → (w7.setCell ⟨w.heap.size + 1, 1, none⟩ (.slice A2 n2 c2)).heap[b]? = w7.heap[b]? := fun b hb => Below.heap_setCell w7 ⟨w.heap.size + 1, 1, none⟩ _ b hb
    have hb8 : Below w.heap.size w (w7.setCell ⟨w.heap.size + 1, 1, none⟩ (.slice A2 n2 c2)) := HB7.out.setCell (Nat.le_succ _) _
    have hz8 : (w7.setCell ⟨w.heap.size + 1, 1, none⟩ (.slice A2 n2 c2)).heap.size = w7.heap.size := by simp
    refine hK.out _ _ trivial (fun _ => ?_)
    clear hK K
    generalize w7.setCell ⟨w.heap.size + 1, 1, none⟩ (.slice A2 n2 c2) = w8 at *
    have HR8 : Hid (Whole w8 w.heap.size 67 z64) := Lib.hid ((hq8 w.heap.size (by omega)).trans HR7.out)
    have HK8 := Lib.hid (HK7.out.keepG (G := fun b => w.heap.size + 1 < b) (fun _ b o e => (HNEW1.out b o e).1) (fun b _ hg => hq8 b (by omega)))
    have HV8 := Lib.hid (HV7.out.keepG (G := fun b => w.heap.size + 1 < b) (fun _ b o e => (HNEW2.out b o e).1) (fun b _ hg => hq8 b (by omega)))
    have HNEW1 := Lib.hid (HNEW1.out.keep (fun b h _ => hq8 b (by omega)) (Nat.le_of_eq hz8.symm))
    have HNEW2 := Lib.hid (HNEW2.out.keep (fun b h _ => hq8 b (by omega)) (Nat.le_of_eq hz8.symm))
    have HW8 := Lib.hid hw8
    have HB8 := Lib.hid hb8
    clear f1 k1 hq8 hw8 hb8 HW7 HR7 HB7 HK7 HV7
    refine wpAnyH_done (by kernel_rfl) ?_ _
    go_upto_region 3 with (fail)
    have hl2 : (acells (.slice A1 n1 c1) (.slice A2 n2 c2) t.h t.n t.lsum t.rsum).length = 68 := acells_len _ _ _ _ _ _ (lsum32 t) (rsum32 t)
    have hz2 : (acells (.slice A1 n1 c1) (.slice A2 n2 c2) t.h t.n t.lsum t.rsum).toArray.size = 68 := by rw [List.size_toArray, hl2]
    refine wp_region_lit ?_
    refine wpList_load_mid rfl 67 (.tmp 3) rfl (w.heap.size + 1) 0 rfl _ _ HW8.out.range Tryd.underlying67 rfl (by rw [hl2]; exact info64) ?_
    refine wpList_store_mid rfl 67 (.tmp 2) (.tmp 16) rfl w.heap.size 0 (acells (.slice A1 n1 c1) (.slice A2 n2 c2) t.h t.n t.lsum t.rsum).toArray rfl rfl ?_ ?_ (acells_one ..) ?_
    · rw [hz2]; exact HR8.out.there_
    · rw [hz2]; exact info64
    have hw9 := HR8.out.setAll (vs := (acells (.slice A1 n1 c1) (.slice A2 n2 c2) t.h t.n t.lsum t.rsum).toArray) (by rw [hz2]; rfl)
    have hb9 := below_setCells w w.heap.size (acells (.slice A1 n1 c1) (.slice A2 n2 c2) t.h t.n t.lsum t.rsum).toArray.toList 0 HB8.out (Nat.le_refl _)
    have hsz9 := size_setCells w.heap.size (acells (.slice A1 n1 c1) (.slice A2 n2 c2) t.h t.n t.lsum t.rsum).toArray.toList 0 w8
    have hbq : ∀ b, b ≠ w.heap.size → (w8.setCells w.heap.size 0 (acells (.slice A1 n1 c1) (.slice A2 n2 c2) t.h t.n t.lsum t.rsum).toArray.toList).heap[b]? = w8.heap[b]? := fun b hb => heap_setCells_other w.heap.size b hb _ 0 w8
    show wpList _ _ _ _ _ (w8.setCells w.heap.size 0 (acells (.slice A1 n1 c1) (.slice A2 n2 c2) t.h t.n t.lsum t.rsum).toArray.toList)
    generalize w8.setCells w.heap.size 0 (acells (.slice A1 n1 c1) (.slice A2 n2 c2) t.h t.n t.lsum t.rsum).toArray.toList = w9 at *
    have HK9 := Lib.hid (HK8.out.keepG (G := fun b => w.heap.size + 1 < b) (fun _ b o e => (HNEW1.out b o e).1) (fun b _ hg => hbq b (by omega)))
    have HV9 := Lib.hid (HV8.out.keepG (G := fun b => w.heap.size + 1 < b) (fun _ b o e => (HNEW2.out b o e).1) (fun b _ hg => hbq b (by omega)))
    have HNEW1 := Lib.hid (HNEW1.out.keep (fun b h _ => hbq b (by omega)) (Nat.le_of_eq hsz9.symm))
    have HNEW2 := Lib.hid (HNEW2.out.keep (fun b h _ => hbq b (by omega)) (Nat.le_of_eq hsz9.symm))
    have HW9 := Lib.hid hw9
    have HB9 := Lib.hid hb9
    clear hw9 hb9 hbq HW8 HB8 HK8 HV8 HR8
    go_wp2_with fail
    have hk1 := HK9.out.len
    have hk2 := HV9.out.len
    have hk3 := HLEN.out.1
    have hk4 := HLEN.out.2
    refine bodyPost_ret (results_cell1 Tryd.results60 _ _ _ ⟨w.heap.size, 0, none⟩ _ rfl (load_whole HW9.out 67 _ Tryd.underlying67 rfl (by rw [hz2]; exact info64))) rfl ⟨_, A1, n1, c1, A2, n2, c2, rfl, ⟨rfl, HK9.out.more (by omega), hnc1, by omega, HV9.out.more (by omega), hnc2, by omega, HNEW1.out.less (by omega), HNEW2.out.less (by omega)⟩, HB9.out⟩
end Go.Proofs.YtehmkkccnadhoaaDoor
namespace Go.Proofs.YtehmkkccnadhoaaDoor
open Go.RowKit
open Tr
variable {G : Nat → Prop}

def Tr.oput (o : Option T) (k v : List UInt8) : T :=
  match o with
  | none => .leaf k v
  | some t => t.put k v
def Tr.oln : Option T → Nat
  | none => 0
  | some t => t.n
def osum : Option T → List UInt8
  | none => Sh.Sha.sum []
  | some t => t.sum
/-- A tree that is answered, and a number. -/
def PutPost (G : Nat → Prop) (t : T) (w : World) (e : Ending) (w' : World) : Prop := ∃ g, e = .returned (.tuple #[ptr (some g), .int .i64 0]) ∧ w.heap.size ≤ g ∧ TIn G w' w'.heap.size (some t) g ∧ Below w.heap.size w w'

set_option maxRecDepth 100000 in
set_option maxHeartbeats 1000000 in
theorem put_any (o : Option T) (g : Nat) (A A' : Option Addr) (n c n' c' : Nat) (k v : List UInt8) (w : World) (ho : TIn G w w.heap.size o g) (hk : Rd w w.heap.size A n k) (hv : Rd w w.heap.size A' n' v) (h1 : 1 ≤ n) (h2 : n ≤ 96) (h3 : n' ≤ 256)
    (hn : oln o + 1 ≤ 4294967296) (ht : Sh.Tab w 2) (hw : Room G w) : Calls Tryd.prog 10 #[ptr (some g), .slice A n c, .slice A' n' c'] w (PutPost G (oput o k v) w) := by
  have HC1 := Lib.hid (leaf_any (G := G) A n c A' n' c' k v w hk hv h2 h3 ht hw)
  obtain ⟨hg, hgg, p, hW, hP⟩ := ho
  have HW := Lib.hid hW
  have HT := Lib.hid ht
  have HG := Lib.hid hw
  have HP := Lib.hid hP
  clear hk hv hgg hW ht hw hP
  rw [ptr_some]
  go_enter Tryd.func10, Tryd.ntmps10
  go_wp2_with fail
  refine HC1.out.mono ?_
  rintro e w1 ⟨bl, rfl, hN1, hb1⟩
  have hc0 := (HW.out.below hb1 hg).at_ (i := 0) rfl
  have hs1 := hb1.size
  rw [ptr_some]
  cases o with
  | none =>
    obtain rfl := HP.out
    rw [ptr_none] at hc0
    have HN1 := Lib.hid hN1
    have HB1 := Lib.hid hb1
    clear hN1 hb1 HC1
    go_wp2_with fail
    go_ret2
    have hb2 := (Below.refl w1.heap.size w1).alloc (Nat.le_refl _) (.cells #[.pointer (some ⟨bl, 0, none⟩)] 59)
    exact ⟨w1.heap.size, rfl, hs1, ⟨by simp, HG.out.2 _ hs1, some bl, Whole.made w1 59 _, bl, rfl, HN1.out.on hb2⟩, HB1.out.alloc hs1 _⟩
  | some t =>
    obtain ⟨b, rfl, hN⟩ := HP.out
    rw [ptr_some] at hc0
    have HC2 := Lib.hid (with_any k v bl t b w1 (hN.on hb1) hN1 hn (Sh.tab_below HT.out hb1 HG.out.1) (HG.out.on hb1))
    rw [ptr_some, ptr_some] at HC2
    have HB1 := Lib.hid hb1
    clear hN hN1 hb1 HC1
    go_wp2_with fail
    refine HC2.out.mono ?_
    rintro e w2 ⟨b2, rfl, hN2, hb2⟩
    have hs2 := hb2.size
    have HN2 := Lib.hid hN2
    have HB2 := Lib.hid (HB1.out.trans (hb2.mono hs1))
    clear hN2 hb2 HC2 HB1 hc0
    rw [ptr_some]
    go_wp2_with fail
    go_ret2
    have hb3 := (Below.refl w2.heap.size w2).alloc (Nat.le_refl _) (.cells #[.pointer (some ⟨b2, 0, none⟩)] 59)
    exact ⟨w2.heap.size, rfl, by omega, ⟨by simp, HG.out.2 _ (by omega), some b2, Whole.made w2 59 _, b2, rfl, HN2.out.on hb3⟩, HB2.out.alloc (by omega) _⟩

theorem one49 (s : List UInt8) : (s.map V8).toArray.all (·.oneCell') = true := all_oneCell_toArray (one_bytes s)
set_option maxRecDepth 100000 in
theorem root_any (o : Option (Option T)) (p : Option Nat) (w : World) (ho : GIn G w w.heap.size o p) (ht : Sh.Tab w 2) (hw : 2 < w.heap.size) :
    Calls Tryd.prog 12 #[ptr p] w fun e w' => e = .returned (.agg (Sh.bcells (osum (topOf o)))) ∧ Below w.heap.size w w' := by
  have hz49 := zero49
  have hb1 : Below w.heap.size w (w.alloc (.cells (zb 32) 44)) := (Below.refl _ _).alloc (Nat.le_refl _) _
  have hs1 : (w.alloc (.cells (zb 32) 44)).heap.size = w.heap.size + 1 := size_alloc _ _
  have HU := Lib.hid (upmost_any o p _ (w.alloc (.cells (zb 32) 44)) (ho.below hb1 (Nat.le_refl _)))
  have HW := Lib.hid (Whole.made w 44 (zb 32))
  have HE := Lib.hid (empty_any (w.alloc (.cells (zb 32) 44)) (Sh.tab_below ht hb1 hw) (by omega))
  have HB1 := Lib.hid hb1
  clear ho ht hb1
  generalize topOf o = q at *
  go_enter Tryd.func12, Tryd.ntmps12
  go_wp2_with fail
  refine HU.out.mono ?_
  rintro e w1 ⟨p1, rfl, hP, rfl⟩
  generalize w.alloc (.cells (zb 32) 44) = w1 at *
  clear hz49 HU
  cases q with
  | none =>
    obtain rfl := hP
    rw [ptr_none]
    go_wp2_with fail
    refine HE.out.mono ?_
    rintro e w2 ⟨rfl, hb2⟩
    have HW2 := Lib.hid (HW.out.below hb2 (by omega))
    have HB2 := Lib.hid (HB1.out.trans (hb2.mono (by omega)))
    clear hb2 HE HW HB1
    obtain ⟨Y, hY⟩ : ∃ Y, Sh.bcells (Sh.Sha.sum []) = Y := ⟨_, rfl⟩
    have hsizeY : Y.size = 32 := by rw [← hY, Sh.bcells_size, Sh.sum_length]
    have honeY : Y.all (·.oneCell') = true := by rw [← hY]; exact Sh.bcells_one _
    rw [hY]
    have HY := Lib.hid hY
    clear hY
    simp only []
    go_step
    refine wpList_store_mid rfl 44 (.tmp 2) (.tmp 12) rfl w.heap.size 0 Y rfl rfl ?_ ?_ honeY ?_
    · rw [hsizeY]; have := HW2.out.there_; rw [zb_size] at this; exact this
    · rw [hsizeY]; exact info49
    have HW8 := Lib.hid (HW2.out.setAll (vs := Y) (by rw [zb_size, hsizeY]))
    have HB8 := Lib.hid (below_setCells w w.heap.size Y.toList 0 HB2.out (by omega))
    generalize w2.setCells w.heap.size 0 Y.toList = w8 at *
    go_wp2_with fail
    refine bodyPost_ret (results_cell1 Tryd.results12 _ _ _ ⟨w.heap.size, 0, none⟩ _ rfl (load_whole HW8.out 44 _ Tryd.underlying44 rfl (by rw [hsizeY]; exact info49))) rfl ⟨by rw [show osum none = Sh.Sha.sum [] from rfl, HY.out], HB8.out⟩
  | some t =>
    obtain ⟨b, rfl, hN⟩ := hP
    obtain ⟨A, n, c, A', n', c', x, y, hh⟩ := hN.has
    have hbl := hh.lt
    have HR := Lib.hid (ncells_srange hh.whole (lsum32 t) (rsum32 t))
    obtain ⟨Y, hY⟩ : ∃ Y, t.sum.map V8 = Y := ⟨_, rfl⟩
    have hsizeY : Y.toArray.size = 32 := by rw [← hY]; exact sumsize t
    have honeY : Y.toArray.all (·.oneCell') = true := by rw [← hY]; exact one49 _
    rw [hY] at HR
    have HY : Hid (Sh.bcells (osum (some t)) = Y.toArray) := Lib.hid (by rw [← hY]; rfl)
    rw [ptr_some]
    clear HE hh hN hY
    go_upto_region 3 with (fail)
    refine wp_region_lit ?_
    iterate 9 go_step
    refine wpList_load_mid rfl 44 (.tmp 10) rfl b 68 rfl _ _ HR.out Tryd.underlying44 rfl (by rw [← List.size_toArray, hsizeY]; exact info49) ?_
    refine wpList_store_mid rfl 44 (.tmp 2) (.tmp 11) rfl w.heap.size 0 Y.toArray rfl rfl ?_ ?_ honeY ?_
    · rw [hsizeY]; have := HW.out.there_; rw [zb_size] at this; exact this
    · rw [hsizeY]; exact info49
    have HW8 := Lib.hid (HW.out.setAll (vs := Y.toArray) (by rw [zb_size, hsizeY]))
    have HB8 := Lib.hid (below_setCells w w.heap.size Y 0 HB1.out (by omega))
    show wpList _ _ _ _ _ (w1.setCells w.heap.size 0 Y)
    change Hid (Whole (w1.setCells w.heap.size 0 Y) _ _ _) at HW8
    generalize w1.setCells w.heap.size 0 Y = w8 at *
    go_wp2_with fail
    refine bodyPost_ret (results_cell1 Tryd.results12 _ _ _ ⟨w.heap.size, 0, none⟩ _ rfl (load_whole HW8.out 44 _ Tryd.underlying44 rfl (by rw [hsizeY]; exact info49))) rfl ⟨by rw [HY.out], HB8.out⟩
end Go.Proofs.YtehmkkccnadhoaaDoor
namespace Go.Proofs.YtehmkkccnadhoaaDoor
open Go.RowKit
open Tr
variable {G : Nat → Prop}

theorem Told.move {w w' : World} {B n c n' c' : Nat} {t : T} {cs : Array Value} {A A' : Option Addr} (h : Told w B t cs A n c A' n' c') (hk : ∀ b, B ≤ b → w'.heap[b]? = w.heap[b]?) (hs : w.heap.size ≤ w'.heap.size) : Told w' B t cs A n c A' n' c' :=
  ⟨h.eq, (h.key.keepG (G := fun b => B ≤ b) (fun _ b o e => (h.knew b o e).1) (fun b _ hb => hk b hb)).more hs, h.knc, h.kle, (h.val.keepG (G := fun b => B ≤ b) (fun _ b o e => (h.vnew b o e).1) (fun b _ hb => hk b hb)).more hs, h.vnc, h.vle, h.knew.keep (fun b hb _ => hk b hb) hs, h.vnew.keep (fun b hb _ => hk b hb) hs⟩
theorem Told.weak {w : World} {B B' n c n' c' : Nat} {t : T} {cs : Array Value} {A A' : Option Addr} (h : Told w B t cs A n c A' n' c') (hB : B' ≤ B) : Told w B' t cs A n c A' n' c' :=
  ⟨h.eq, h.key, h.knc, h.kle, h.val, h.vnc, h.vle, h.knew.less hB, h.vnew.less hB⟩
theorem Told.below {w w' : World} {B n c n' c' : Nat} {t : T} {cs : Array Value} {A A' : Option Addr} (h : Told w B t cs A n c A' n' c') (hb : Below w.heap.size w w') : Told w' B t cs A n c A' n' c' :=
  ⟨h.eq, (h.key.below hb (Nat.le_refl _)).more hb.size, h.knc, h.kle, (h.val.below hb (Nat.le_refl _)).more hb.size, h.vnc, h.vle, h.knew.below hb (Nat.le_refl _), h.vnew.below hb (Nat.le_refl _)⟩

def Tr.oat : Option T → List Bool → Option T
  | none, _ => none
  | some t, [] => some t
  | some (.leaf _ _), _ :: _ => none
  | some (.node l r), b :: way => oat (some (if b then r else l)) way
theorem oat_none (way : List Bool) : oat none way = none := by cases way <;> rfl
theorem oat_nil (o : Option T) : oat o [] = o := by cases o <;> rfl

def WayPost (o : Option T) (w : World) (e : Ending) (w' : World) : Prop :=
  (o = none ∧ e = .returned (.tuple #[.agg z64, .bool false]) ∧ Below w.heap.size w w') ∨
  ∃ t cs A n c A' n' c', o = some t ∧ e = .returned (.tuple #[.agg cs, .bool true]) ∧ Told w' w.heap.size t cs A n c A' n' c' ∧ Below w.heap.size w w'
theorem z64_size : z64.size = 68 := by kernel_rfl
theorem z64_one : z64.all (·.oneCell') = true := acells_one ..

set_option maxRecDepth 100000 in
set_option maxHeartbeats 1000000 in
theorem way_any (o : Option (Option T)) (p : Option Nat) (W : Option Addr) (n c : Nat) (way : List Bool) (w : World) (ho : GIn G w w.heap.size o p) (hway : RdV w w.heap.size 1 W n (way.map Value.bool)) (hn : n ≤ 9223372036854775807) :
    Calls Tryd.prog 35 #[ptr p, .slice W n c] w (WayPost (oat (topOf o) way) w) := by
  have hz64 := zero64
  have hb1 : Below w.heap.size w (w.alloc (.cells z64 67)) := (Below.refl _ _).alloc (Nat.le_refl _) _
  have hs1 : (w.alloc (.cells z64 67)).heap.size = w.heap.size + 1 := size_alloc _ _
  have HU := Lib.hid (upmost_any o p _ (w.alloc (.cells z64 67)) (ho.below hb1 (Nat.le_refl _)))
  have HW := Lib.hid (Whole.made w 67 z64)
  have HB1 := Lib.hid hb1
  have HWAY := Lib.hid (hway.below hb1 (Nat.le_refl _))
  clear ho hway hb1
  generalize topOf o = q at *
  go_enter Tryd.func35, Tryd.ntmps35
  go_wp2_with fail
  refine HU.out.mono ?_
  rintro e w1' ⟨p1, rfl, hP, rfl⟩
  generalize w.alloc (.cells z64 67) = w1 at *
  clear hz64 HU
  have HP := Lib.hid hP
  clear hP
  go_wp2_with fail
  go_loopg [6, 13] n (fun gk s6 s13 wx => ∃ i s p', i + gk = n ∧ s13 = .int .i64 (i : Nat) ∧ s6 = ptr p' ∧ PIn G w1 w.heap.size s p' ∧ oat s (way.drop i) = oat q way ∧ wx = w1)
  case atStart => exact ⟨0, q, p1, by omega, rfl, rfl, HP.out, rfl, rfl⟩
  case round =>
    clear HP
    obtain ⟨i, s, p', hi, rfl, rfl, hP, hat, rfl⟩ := hrel
    have HAT := Lib.hid hat
    clear hat
    cases gk with
    | zero =>
      obtain rfl : i = n := by omega
      have HE : Hid (way.drop i = []) := Lib.hid (List.drop_eq_nil_of_le (by have := HWAY.out.1; simp at this; omega))
      rw [HE.out] at HAT
      clear HE hi
      cases s with
      | none =>
        obtain rfl := hP
        rw [ptr_none]
        have hz64 := zero64
        go_upto_region 9 with (fail)
        refine wp_region_lit ?_
        iterate 3 go_step
        clear hz64
        refine wpList_store_mid rfl 67 (.tmp 4) (.tmp 25) rfl w.heap.size 0 z64 rfl rfl ?_ ?_ z64_one ?_
        · exact HW.out.there_
        · rw [z64_size]; exact info64
        have HW8 := Lib.hid (HW.out.setAll (vs := z64) rfl)
        have HB8 := Lib.hid (below_setCells w w.heap.size z64.toList 0 HB1.out (by omega))
        generalize wr.setCells w.heap.size 0 z64.toList = w8 at *
        go_wp2_with fail
        refine bodyPost_ret (results_cell2 Tryd.results35 _ _ _ ⟨w.heap.size, 0, none⟩ _ rfl (load_whole HW8.out 67 _ Tryd.underlying67 rfl (by rw [z64_size]; exact info64))) rfl (.inl ⟨?_, rfl, HB8.out⟩)
        rw [← HAT.out, oat_none]
      | some t =>
        obtain ⟨b, rfl, hN⟩ := hP
        have HC := Lib.hid (told_any t b w.heap.size wr hN (by omega))
        rw [ptr_some] at HC ⊢
        clear hN
        go_wp2_with fail
        refine HC.out.mono ?_
        rintro e w2 ⟨cs, A, n1, c1, A', n', c', rfl, hT, hb2⟩
        have hcs : cs.size = 68 := by rw [hT.eq, List.size_toArray, acells_len _ _ _ _ _ _ (lsum32 t) (rsum32 t)]
        have hone : cs.all (·.oneCell') = true := by rw [hT.eq]; exact acells_one ..
        have HT := Lib.hid hT
        have hsb := hb2.size
        have HW2 := Lib.hid (HW.out.below hb2 (by omega))
        have HB2 := Lib.hid (HB1.out.trans (hb2.mono (by omega)))
        clear hT hb2 HC HW HB1
        simp only []
        go_step
        refine wpList_store_mid rfl 67 (.tmp 4) (.tmp 27) rfl w.heap.size 0 cs rfl rfl ?_ ?_ hone ?_
        · rw [hcs]; exact HW2.out.there_
        · rw [hcs]; exact info64
        have HW8 := Lib.hid (HW2.out.setAll (vs := cs) (by rw [hcs]; rfl))
        have HB8 := Lib.hid (below_setCells w w.heap.size cs.toList 0 HB2.out (by omega))
        have HT8 := Lib.hid ((HT.out.move (w' := w2.setCells w.heap.size 0 cs.toList) (fun b hb => heap_setCells_other w.heap.size b (by omega) cs.toList 0 w2) (by rw [size_setCells]; omega)).weak (B' := w.heap.size) (by omega))
        generalize w2.setCells w.heap.size 0 cs.toList = w8 at *
        clear HW2 HB2 HT
        go_wp2_with fail
        refine bodyPost_ret (results_cell2 Tryd.results35 _ _ _ ⟨w.heap.size, 0, none⟩ _ rfl (load_whole HW8.out 67 _ Tryd.underlying67 rfl (by rw [hcs]; exact info64))) rfl (.inr ⟨t, cs, A, n1, c1, A', n', c', ?_, rfl, HT8.out, HB8.out⟩)
        rw [← HAT.out]
        rw [oat_nil]
    | succ gn =>
      have hin : i < n := by omega
      have hlen : way.length = n := by have := HWAY.out.1; simpa using this
      obtain ⟨wb, wo, rfl, hwb, hcell⟩ := HWAY.out.2 (by omega)
      have hc := hcell i (.bool way[i]) (by rw [List.getElem?_map, List.getElem?_eq_getElem (by omega)]; rfl)
      have HD : Hid (way.drop i = way[i] :: way.drop (i + 1)) := Lib.hid (List.drop_eq_getElem_cons (by omega))
      clear hcell hwb
      generalize way[i] = R at *
      clear hlen
      cases s with
      | none =>
        obtain rfl := hP
        rw [ptr_none]
        have hz64 := zero64
        go_upto_region 9 with (fail)
        refine wp_region_lit ?_
        iterate 3 go_step
        clear hz64
        refine wpList_store_mid rfl 67 (.tmp 4) (.tmp 25) rfl w.heap.size 0 z64 rfl rfl ?_ ?_ z64_one ?_
        · exact HW.out.there_
        · rw [z64_size]; exact info64
        have HW8 := Lib.hid (HW.out.setAll (vs := z64) rfl)
        have HB8 := Lib.hid (below_setCells w w.heap.size z64.toList 0 HB1.out (by omega))
        generalize wr.setCells w.heap.size 0 z64.toList = w8 at *
        go_wp2_with fail
        refine bodyPost_ret (results_cell2 Tryd.results35 _ _ _ ⟨w.heap.size, 0, none⟩ _ rfl (load_whole HW8.out 67 _ Tryd.underlying67 rfl (by rw [z64_size]; exact info64))) rfl (.inl ⟨?_, rfl, HB8.out⟩)
        rw [← HAT.out, oat_none]
      | some t =>
        obtain ⟨b, rfl, hN⟩ := hP
        cases t with
        | leaf k v =>
          obtain ⟨A, n1, c1, A', n', c', hh⟩ := hN
          cases R with
          | true =>
            have HL := Lib.hid (side_right hh)
            rw [ptr_some] at HL ⊢
            skip
            clear hh
            go_wp2_with fail
            refine HL.out.mono ?_
            rintro e w2 ⟨rfl, rfl⟩
            go_wp2_with fail
            go_roundg gn
            case measure => omega
            case rel => exact ⟨i + 1, none, _, by omega, congrArg (Value.int .i64) (by omega), rfl, rfl, by rw [← HAT.out, HD.out]; simp [oat], rfl⟩
          | false =>
            have HL := Lib.hid (side_left hh)
            rw [ptr_some] at HL ⊢
            skip
            clear hh
            go_wp2_with fail
            refine HL.out.mono ?_
            rintro e w2 ⟨rfl, rfl⟩
            go_wp2_with fail
            go_roundg gn
            case measure => omega
            case rel => exact ⟨i + 1, none, _, by omega, congrArg (Value.int .i64) (by omega), rfl, rfl, by rw [← HAT.out, HD.out]; simp [oat], rfl⟩
        | node l r =>
          obtain ⟨A, n1, c1, A', n', c', x, y, hh, hx, hy⟩ := hN
          cases R with
          | true =>
            have HL := Lib.hid (side_right hh)
            rw [ptr_some] at HL ⊢
            have HX := Lib.hid hy
            clear hh hx hy
            go_wp2_with fail
            refine HL.out.mono ?_
            rintro e w2 ⟨rfl, rfl⟩
            go_wp2_with fail
            go_roundg gn
            case measure => omega
            case rel => exact ⟨i + 1, some r, _, by omega, congrArg (Value.int .i64) (by omega), rfl, ⟨_, rfl, HX.out⟩, by rw [← HAT.out, HD.out]; simp [oat], rfl⟩
          | false =>
            have HL := Lib.hid (side_left hh)
            rw [ptr_some] at HL ⊢
            have HX := Lib.hid hx
            clear hh hx hy
            go_wp2_with fail
            refine HL.out.mono ?_
            rintro e w2 ⟨rfl, rfl⟩
            go_wp2_with fail
            go_roundg gn
            case measure => omega
            case rel => exact ⟨i + 1, some l, _, by omega, congrArg (Value.int .i64) (by omega), rfl, ⟨_, rfl, HX.out⟩, by rw [← HAT.out, HD.out]; simp [oat], rfl⟩
end Go.Proofs.YtehmkkccnadhoaaDoor
namespace Go.Proofs.YtehmkkccnadhoaaDoor
open Go.RowKit

section
variable {P : Program} {ops : Array Oper} {Q : Exit → Act → World → Prop} {md : Region.Mode} {S : World → Prop} {late : Nat → Bool}

/-- Whatever comes up next; S is shown behind it, if it is not late. -/
def wpLate (P : Program) (md : Region.Mode) (ops : Array Oper) (Q : Exit → Act → World → Prop) (S : World → Prop) (late : Nat → Bool) : Nat → Array Bool → Act → World → Prop
  | 0, done, a, w => Region.ready md ops done = [] ∧ Q .normal a w
  | f + 1, done, a, w => (Region.ready md ops done = [] → Q .normal a w) ∧
    ∀ k ∈ Region.ready md ops done, wpOp P ops Q k (fun b u => (late k = false → S u) ∧ wpLate P md ops Q S late f (done.setIfInBounds k true) b u) a w

theorem wpAny_of_late : ∀ (f : Nat) (done : Array Bool) (a : Act) (w : World), wpLate P md ops Q S late f done a w → wpAny P md ops Q f done a w
  | 0, _, _, _, h => h
  | f + 1, _, _, _, h => ⟨h.1, fun k hk => wpOp_mono (fun b u g => wpAny_of_late f _ b u g.2) (h.2 k hk)⟩

/-- Operation j waits for operation i. -/
def waits (md : Region.Mode) (ops : Array Oper) (j i : Nat) : Bool :=
  match ops[j]? with
  | some o => o.after.any fun e => Region.binds md e && e.on == i
  | none => true

theorem wpLate_first {i : Nat} {oi : Oper} {v : Value} (hi : ops[i]? = some oi) (hsel : ∀ (j : Nat) (o : Oper) cs b, ops[j]? = some o → o.op ≠ .select cs b)
    (hQ : ∀ c a w, Q (.panic c) (a.put oi.dst v) w → Q (.panic c) a w) (hl : ∀ j, j < ops.size → late j = true → waits md ops j i = true) :
    ∀ (f : Nat) (done : Array Bool) (a : Act) (w : World),
      (∀ j oj, ops[j]? = some oj → j ≠ i → done.getD j true = false → (∀ e ∈ oj.after, Region.binds md e = true → e.on ≠ i) → oi.apart ops oj = true) →
      i ∈ Region.ready md ops done → YieldsIf P ops S oi v a → S w →
      wpLate P md ops Q S late f (done.setIfInBounds i true) (a.put oi.dst v) w → wpLate P md ops Q S late (f + 1) done a w := by
  intro f
  induction f with
  | zero =>
    intro done a w _ hr hy hS H
    refine ⟨fun h => absurd hr (by rw [h]; simp), fun j hj => ?_⟩
    rcases Nat.decEq j i with hji | hji
    · have := ready_mono hj hji
      rw [H.1] at this
      cases this
    · subst hji
      exact hy.wpOp hi hS ⟨fun _ => hS, H⟩
  | succ f ih =>
    intro done a w hfree hr hy hS H
    refine ⟨fun h => absurd hr (by rw [h]; simp), fun j hj => ?_⟩
    rcases Nat.decEq j i with hji | hji
    · have hrest := H.2 j (ready_mono hj hji)
      obtain ⟨hjun, oj, hoj, hall⟩ := mem_ready.1 hj
      have hnot : ∀ e ∈ oj.after, Region.binds md e = true → e.on ≠ i := fun e he hb heq => by
        have g1 := hall e he hb
        have g0 := (mem_ready.1 hr).1
        rw [heq] at g1
        rcases Nat.lt_or_ge i done.size with hlt | hge
        · simp [hlt] at g0 g1
          rw [g0] at g1
          cases g1
        · simp [Array.getElem?_eq_none hge] at g1
      have hearly : late j = false := by
        cases hlj : late j with
        | false => rfl
        | true =>
          have hw := hl j (Array.getElem?_eq_some_iff.1 hoj).1 hlj
          unfold waits at hw
          rw [hoj] at hw
          obtain ⟨k, hk, he⟩ := Array.any_iff_exists.1 hw
          simp only [Bool.and_eq_true, beq_iff_eq] at he
          exact absurd he.2.2.2 (hnot _ (Array.getElem_mem _) he.2.2.1)
      have hput := wpOp_putIf hoj (hfree j oj hoj hji hjun hnot) (fun cs b => hsel i oi cs b hi) (fun cs b => hsel j oj cs b hoj) hQ hy hrest
      refine wpOp_mono (fun b u g => ⟨fun _ => g.2.1 hearly, ih (done.setIfInBounds j true) b u ?_ (ready_mono hr (Ne.symm hji)) g.1 (g.2.1 hearly) ?_⟩) hput
      · intro k ok hk hki hun hno
        refine hfree k ok hk hki ?_ hno
        rcases Nat.decEq j k with hjk | hjk
        · rwa [getD_set_ne true hjk] at hun
        · subst hjk
          exact hjun
      · rw [Array.setIfInBounds_comm _ _ hji]
        exact g.2.2
    · subst hji
      exact hy.wpOp hi hS ⟨fun _ => hS, H⟩

theorem wpLate_take {i : Nat} {oi : Oper} {v : Value} {f : Nat} {done : Array Bool} {a : Act} {w : World} (hi : ops[i]? = some oi)
    (hs : Region.noSelect ops = true) (hf : Region.free md ops done i = true) (hr : (Region.ready md ops done).contains i = true) (hl : ((List.range ops.size).all fun j => !late j || waits md ops j i) = true)
    (hQ : ∀ c a w, Q (.panic c) (a.put oi.dst v) w → Q (.panic c) a w) (hy : YieldsIf P ops S oi v a) (hS : S w)
    (h : wpLate P md ops Q S late f (done.setIfInBounds i true) (a.put oi.dst v) w) : wpLate P md ops Q S late (f + 1) done a w :=
  wpLate_first hi (Region.noSelect_spec hs) hQ (fun j hj hlj => by
    have := List.all_eq_true.1 hl j (List.mem_range.2 hj)
    rw [hlj] at this
    simpa using this) f done a w (Region.free_spec hi hf) (by simpa using hr) hy hS h

/-- Each of these comes up next. -/
def AllLate (P : Program) (md : Region.Mode) (ops : Array Oper) (Q : Exit → Act → World → Prop) (S : World → Prop) (late : Nat → Bool) (f : Nat) (done : Array Bool) (a : Act) (w : World) (rs : List Nat) : Prop :=
  ∀ k ∈ rs, wpOp P ops Q k (fun b u => (late k = false → S u) ∧ wpLate P md ops Q S late f (done.setIfInBounds k true) b u) a w
theorem AllLate.nil {f : Nat} {done : Array Bool} {a : Act} {w : World} : AllLate P md ops Q S late f done a w [] := fun _ h => by cases h
theorem AllLate.cons {f : Nat} {done : Array Bool} {a : Act} {w : World} {i : Nat} {o : Oper} {rs : List Nat} (ho : ops[i]? = some o)
    (h : ∀ K : Act → World → Prop, Shut (∀ b u, (late i = false → S u) → wpLate P md ops Q S late f (done.setIfInBounds i true) b u → K b u) → if Region.wanted o (yielded ops a.tmps) = true then Oper.wp P o a w K Q else K (a.put o.dst undef) w)
    (hs : AllLate P md ops Q S late f done a w rs) : AllLate P md ops Q S late f done a w (i :: rs) := fun j hj => by
  rcases List.mem_cons.1 hj with rfl | hj
  · exact wpOp_step ho (fun K hK => h K (fun b u hS hW => hK b u ⟨hS, hW⟩))
  · exact hs j hj
theorem wpLate_ready {rs : List Nat} {f : Nat} {done : Array Bool} {a : Act} {w : World} (hr : Region.ready md ops done = rs) (hne : rs ≠ [])
    (h : AllLate P md ops Q S late f done a w rs) : wpLate P md ops Q S late (f + 1) done a w := ⟨fun h0 => absurd (hr ▸ h0) hne, hr ▸ h⟩
theorem wpLate_done {done : Array Bool} {a : Act} {w : World} (hr : Region.ready md ops done = []) (h : Q .normal a w) : ∀ f, wpLate P md ops Q S late f done a w
  | 0 => ⟨hr, h⟩
  | _ + 1 => ⟨fun _ => h, by rw [hr]; simp⟩
theorem wp_region_late {id : Nat} {a : Act} {w : World} (hm : P.follows .mixedOrders = true) (h : wpLate P .any ops Q S late ops.size (Array.replicate ops.size false) a w.drew) : (Code.region id ops true).wp P Q a w :=
  wp_region_any hm (wpAny_of_late _ _ _ _ h)
end
end Go.Proofs.YtehmkkccnadhoaaDoor
namespace Go.Proofs.YtehmkkccnadhoaaDoor
open Go.RowKit
open Tr
variable {G : Nat → Prop}

def Tr.T.all : T → List T
  | .leaf k v => [.leaf k v]
  | .node l r => .node l r :: (l.all ++ r.all)

end Go.Proofs.YtehmkkccnadhoaaDoor
namespace Go.Proofs.YtehmkkccnadhoaaDoor
open Go.RowKit
open Tr

def All (_ : Nat) : Prop := True
theorem room {w : World} (h : 2 < w.heap.size) : Room All w := ⟨h, fun _ _ => trivial⟩

end Go.Proofs.YtehmkkccnadhoaaDoor
namespace Go.Proofs.YtehmkkccnadhoaaDoor
open Go.RowKit
open Tr

theorem acells_lrange {w : World} {g : Nat} {t : TypeId} {kv vv : Value} {h : Int} {z : Nat} {l r : List UInt8} (hw : Whole w g t (acells kv vv h z l r).toArray) : w.rangeAt g 4 (l.map V8) := fun j v hv =>
  hw.at_ (by
    have hj := (List.getElem?_eq_some_iff.1 hv).1
    rw [List.getElem?_toArray, acells, show 4 + j = j + 4 by omega]
    show (l.map V8 ++ r.map V8)[j]? = some v
    rw [List.getElem?_append_left hj, hv])
theorem acells_rrange {w : World} {g : Nat} {t : TypeId} {kv vv : Value} {h : Int} {z : Nat} {l r : List UInt8} (hw : Whole w g t (acells kv vv h z l r).toArray) (hl : l.length = 32) : w.rangeAt g 36 (r.map V8) := fun j v hv =>
  hw.at_ (by
    rw [List.getElem?_toArray, acells, show 36 + j = (32 + j) + 4 by omega]
    show (l.map V8 ++ r.map V8)[32 + j]? = some v
    rw [List.getElem?_append_right (by rw [List.length_map, hl]; omega), List.length_map, hl, show 32 + j - 32 = j by omega, hv])
end Go.Proofs.YtehmkkccnadhoaaDoor
namespace Go.Proofs.YtehmkkccnadhoaaDoor
open Go.RowKit

theorem fold_set (off : Nat) : ∀ (vs pre old post : List Value) (k : Nat), pre.length = off + k → old.length = vs.length →
    (vs.zipIdx k).foldl (fun (cs : Array Value) x => match x with | (c, j) => cs.setIfInBounds (off + j) c) (pre ++ (old ++ post)).toArray = (pre ++ (vs ++ post)).toArray
  | [], pre, old, post, k, _, h => by
    have : old = [] := List.length_eq_zero_iff.1 h
    subst this
    rfl
  | v :: vs, pre, [], post, k, _, h => by simp at h
  | v :: vs, pre, o :: old, post, k, h1, h => by
    have e : (pre ++ (o :: old ++ post)).toArray.setIfInBounds (off + k) v = ((pre ++ [v]) ++ (old ++ post)).toArray := by
      rw [List.setIfInBounds_toArray, ← h1, List.set_append_right _ _ (Nat.le_refl _), Nat.sub_self]
      simp
    rw [List.zipIdx_cons, List.foldl_cons]
    show List.foldl _ ((pre ++ (o :: old ++ post)).toArray.setIfInBounds (off + k) v) _ = _
    rw [e, fold_set off vs (pre ++ [v]) old post (k + 1) (by simp; omega) (by simpa using h)]
    simp
theorem fill_at {place : Nat → Option (Nat × Nat)} {i : Nat} {v : Value} {rest : List (Nat × Value)} (pre old post : List Value) (hp : place i = some (pre.length, v.cells.size)) (ho : old.length = v.cells.size) :
    Instr.fill place (pre ++ (old ++ post)).toArray ((i, v) :: rest) = Instr.fill place (pre ++ (v.cells.toList ++ post)).toArray rest := by
  have h := fold_set pre.length v.cells.toList pre old post 0 rfl (by rw [ho]; simp)
  rw [Instr.fill, hp]
  simp only
  rw [if_neg (by simp; omega)]
  congr 1
  rw [← h, ← Array.foldl_toList, Array.toList_zipIdx]
theorem built_struct {P : Program} {t : TypeId} {zs : Array Value} {fields : Array Field} {places : List (Nat × Nat)} (parts : Array (Nat × Value)) (hi : (P.info? t).map (·.zero) = some (some (.agg zs))) (hu : P.underlying t = some (.struct fields))
    (hp : fields.toList.mapM (fun f => (P.info? f.type).map fun i => (f.offset, i.size)) = some places) : P.built t parts.toList = Instr.fill (places.toArray[·]?) zs parts.toList := by
  obtain ⟨it, hit, hz⟩ := Option.map_eq_some_iff.1 hi
  unfold Program.built
  rw [hit, hu]
  simp only [hz, hp]
  rfl
theorem range_keep {w w' : World} {B b o : Nat} {cs : List Value} (h : w.rangeAt b o cs) (hb : Below B w w') (hB : b < B) : w'.rangeAt b o cs := fun j v hv => (hb.cell (p := ⟨b, o + j, none⟩) hB).trans (h j v hv)
theorem wpList_build_run {P : Program} {ops : Array Oper} {rest : List Oper} {o : Oper} {a : Act} {w : World} {Q : Exit → Act → World → Prop} (hgd : o.guard = none) (t : TypeId) (ps : Array (Nat × Operand)) (ho : o.op = .build t ps) (parts : Array (Nat × Value))
    (he : ps.map (fun x => (x.1, a.eval x.2)) = parts) (v : Value) (hr : (Instr.build t parts).run P w = .ok v w) (h : wpList P ops Q rest (a.put o.dst v) w) : wpList P ops Q (o :: rest) a w :=
  wpList_plain hgd fun K hK => by
    unfold Oper.wp execOp
    simp only [ho, Sem.run_bind]
    rw [he, hr]
    exact hK _ _ h
end Go.Proofs.YtehmkkccnadhoaaDoor
namespace Go.Proofs.YtehmkkccnadhoaaDoor
open Go.RowKit
open Tr

/-- A turn. -/
structure Tn where
  h : Int
  z : Nat
  r : Bool
  o : List UInt8
  deriving DecidableEq
def tcells (x : Tn) : List Value := .int .i64 x.h :: .int .u64 x.z :: .bool x.r :: x.o.map V8
def tn0 : Tn := ⟨0, 0, false, List.replicate 32 0⟩
def zt : Array Value := (tcells tn0).toArray
theorem tcells_len (x : Tn) (h : x.o.length = 32) : (tcells x).length = 35 := by simp [tcells, h]
theorem tcells_one (x : Tn) : ∀ u ∈ tcells x, u.oneCell' = true := fun u hu => by
  simp only [tcells, List.mem_cons, List.mem_map] at hu
  rcases hu with rfl | rfl | rfl | ⟨b, _, rfl⟩ <;> rfl
theorem tcells_all (x : Tn) : (tcells x).toArray.all (·.oneCell') = true := all_oneCell_toArray (tcells_one x)
theorem zt_size : zt.size = 35 := by kernel_rfl
theorem info46 : (Tryd.prog.info? 46).map (·.size) = some 35 := by kernel_rfl
theorem info46f : (Tryd.prog.info? 46).map (fun i => (i.zero, i.size, i.bytes)) = some (some (.agg zt), 35, 56) := by kernel_rfl
theorem zero46 : ∀ w, (zeroValue 46).run Tryd.prog w = .ok (.agg zt) w := (zero_of_info (P := Tryd.prog) (t := 46) (v := .agg zt) (n := 35) (by kernel_rfl)).1
theorem built_turn (x : Tn) (ho : x.o.length = 32) : ∀ w, (Instr.build 46 (#[(0, .int .i64 x.h), (1, .int .u64 x.z), (2, .bool x.r), (3, .agg (Sh.bcells x.o))] : Array (Nat × Value))).run Tryd.prog w = .ok (.agg (tcells x).toArray) w := fun w => by
  refine run_build w 46 _ _ ?_
  have hb := built_struct (P := Tryd.prog) (t := 46) (zs := zt) (places := [(0, 1), (1, 1), (2, 1), (3, 32)]) (#[(0, .int .i64 x.h), (1, .int .u64 x.z), (2, .bool x.r), (3, .agg (Sh.bcells x.o))] : Array (Nat × Value)) (by kernel_rfl) Tryd.underlying46 (by kernel_rfl)
  rw [hb]
  obtain ⟨zl, hzl⟩ : ∃ zl : List Value, zl = (List.replicate 32 (0 : UInt8)).map V8 := ⟨_, rfl⟩
  have e0 : zt = ([] ++ ([Value.int .i64 0] ++ (Value.int .u64 0 :: Value.bool false :: zl))).toArray := by rw [hzl]; rfl
  rw [e0, fill_at [] [Value.int .i64 0] _ rfl rfl]
  have e1 : ([] ++ ((Value.int .i64 x.h).cells.toList ++ (Value.int .u64 0 :: Value.bool false :: zl))).toArray = ([Value.int .i64 x.h] ++ ([Value.int .u64 0] ++ (Value.bool false :: zl))).toArray := rfl
  rw [e1, fill_at [Value.int .i64 x.h] [Value.int .u64 0] _ rfl rfl]
  have e2 : ([Value.int .i64 x.h] ++ ((Value.int .u64 x.z).cells.toList ++ (Value.bool false :: zl))).toArray = ([Value.int .i64 x.h, Value.int .u64 x.z] ++ ([Value.bool false] ++ zl)).toArray := rfl
  rw [e2, fill_at [Value.int .i64 x.h, Value.int .u64 x.z] [Value.bool false] _ rfl rfl]
  have e3 : ([Value.int .i64 x.h, Value.int .u64 x.z] ++ ((Value.bool x.r).cells.toList ++ zl)).toArray = ([Value.int .i64 x.h, Value.int .u64 x.z, Value.bool x.r] ++ (zl ++ [])).toArray := by simp [Value.cells]
  have hsz : (Value.agg (Sh.bcells x.o)).cells.size = 32 := by show (Sh.bcells x.o).size = 32; rw [Sh.bcells_size, ho]
  rw [e3, fill_at [Value.int .i64 x.h, Value.int .u64 x.z, Value.bool x.r] zl [] (by rw [hsz]; rfl) (by rw [hsz, hzl]; simp)]
  rw [Instr.fill]
  have e4 : (Value.agg (Sh.bcells x.o)).cells.toList = x.o.map V8 := rfl
  rw [e4]
  simp [tcells]

/-- A turn whose other side is stored anew. -/
theorem turn_store {w : World} {g : Nat} {t : TypeId} {h : Int} {z : Nat} {b : Bool} {o o' : List UInt8} (hw : Whole w g t (tcells ⟨h, z, b, o⟩).toArray) (ho : o.length = 32) (ho' : o'.length = 32) : Whole (w.setCells g 3 (o'.map V8)) g t (tcells ⟨h, z, b, o'⟩).toArray := by
  have h1 := Whole.setCells (o'.map V8) [.int .i64 h, .int .u64 z, .bool b] (o.map V8) [] (w := w) (g := g) (t := t) (by simpa [tcells] using hw) (by simp [ho, ho'])
  simpa [tcells] using h1

set_option maxRecDepth 100000 in
set_option maxHeartbeats 600000 in
theorem turnAt_any (kv vv : Value) (h : Int) (z : Nat) (l r : List UInt8) (b : Bool) (w : World) (hl : l.length = 32) (hr : r.length = 32) :
    Calls Tryd.prog 36 #[.agg (acells kv vv h z l r).toArray, .bool b] w fun e w' => e = .returned (.agg (tcells ⟨h, z, b, if b = true then l else r⟩).toArray) ∧ Below w.heap.size w w' := by
  have hz46 := zero46
  obtain ⟨X, hX⟩ : ∃ X, (acells kv vv h z l r).toArray = X := ⟨_, rfl⟩
  obtain ⟨Y, hY⟩ : ∃ Y, (tcells ⟨h, z, b, r⟩).toArray = Y := ⟨_, rfl⟩
  have hbt : ∀ w, (Instr.build 46 (#[(0, .int .i64 h), (1, .int .u64 z), (2, .bool b), (3, .agg (r.map V8).toArray)] : Array (Nat × Value))).run Tryd.prog w = .ok (.agg Y) w := fun w => by rw [← hY]; exact built_turn ⟨h, z, b, r⟩ hr w
  have hYs : Y.size = 35 ∧ Y.all (·.oneCell') = true := by rw [← hY]; exact ⟨by rw [List.size_toArray]; exact tcells_len _ hr, tcells_all _⟩
  have HYE := Lib.hid hY
  have HS := Lib.hid hYs
  have hb0 : Below w.heap.size w ((w.alloc (.cells X 67)).alloc (.cells zt 46)) := ((Below.refl _ _).alloc (Nat.le_refl _) _).alloc (by simp) _
  have hw2 := (Whole.made w 67 X).alloc (.cells zt 46)
  have hw4 := Whole.made (w.alloc (.cells X 67)) 46 zt
  rw [size_alloc] at hw4
  rw [hX]
  have HB0 := Lib.hid hb0
  have HW4 := Lib.hid hw4
  have hwx := hw2
  rw [← hX] at hwx
  have c2 := hwx.at_ (i := 2) (v := .int .i64 h) rfl
  have c3 := hwx.at_ (i := 3) (v := .int .u64 z) rfl
  have HRL := Lib.hid (acells_lrange hwx)
  have HRR := Lib.hid (acells_rrange hwx hl)
  rw [hX] at c2 c3 HRL HRR
  have HI2 : Hid ((Tryd.prog.info? 44).map (·.size) = some (r.map V8).length) := Lib.hid (by rw [List.length_map, hr]; exact info49)
  have HI1 : Hid ((Tryd.prog.info? 44).map (·.size) = some (l.map V8).length) := Lib.hid (by rw [List.length_map, hl]; exact info49)
  have HL := Lib.hid (And.intro hl hr)
  clear hX hb0 hw2 hw4 hwx hY hYs hl hr
  go_enter Tryd.func36, Tryd.ntmps36
  go_upto_region 1 with (fail)
  generalize (w.alloc (.cells X 67)).alloc (.cells zt 46) = w1 at *
  refine wp_region_lit ?_
  iterate 18 go_step
  refine wpList_load_mid rfl 44 (.tmp 11) rfl w.heap.size 36 rfl (r.map V8) _ HRR.out Tryd.underlying44 rfl HI2.out ?_
  simp only [Act.put, List.setIfInBounds_toArray, List.set_cons_zero, List.set_cons_succ]
  refine wpList_build_run rfl 46 #[(0, .tmp 7), (1, .tmp 9), (2, .tmp 10), (3, .tmp 12)] rfl _ ?_ _ (hbt w1) ?_
  · simp only [List.map_toArray, List.map_cons, List.map_nil]
    rfl
  simp only [Act.put, List.setIfInBounds_toArray, List.set_cons_zero, List.set_cons_succ]
  iterate 3 go_step
  refine Sh.wpList_store_made rfl 46 (.tmp 5) (.tmp 13) rfl zt Y rfl rfl ?_ ?_ HS.out.2 ?_
  · rw [HS.out.1]; exact info46
  · rw [HS.out.1]; exact zt_size
  have hb5 : Below w1.heap.size w1 (w1.alloc (.cells Y 46)) := (Below.refl _ _).alloc (Nat.le_refl _) _
  have hw5 := Whole.made w1 46 Y
  have hlt := HW4.out.lt
  have HB5 := Lib.hid (HB0.out.trans (hb5.mono (by omega)))
  have HW45 := Lib.hid (HW4.out.below hb5 hlt)
  have HRL5 : Hid ((w1.alloc (.cells Y 46)).rangeAt w.heap.size 4 (l.map V8)) := Lib.hid (range_keep HRL.out hb5 (by omega))
  have HW5 := Lib.hid hw5
  have hg5 : w.heap.size + 1 < w1.heap.size := hlt
  clear hb5 hw5 hlt hbt hz46 HRL HRR HW4 HB0 c2 c3 HI2
  generalize w1.alloc (.cells Y 46) = w2 at *
  generalize w1.heap.size = g5 at *
  cases b with
  | true =>
    go_upto_region 3 with (fail)
    refine wp_region_lit ?_
    iterate 3 go_step
    refine wpList_load_mid rfl 44 (.tmp 15) rfl w.heap.size 4 rfl (l.map V8) _ HRL5.out Tryd.underlying44 rfl HI1.out ?_
    simp only [Act.put, List.setIfInBounds_toArray, List.set_cons_zero, List.set_cons_succ]
    iterate 3 go_step
    refine wpList_store_mid rfl 44 (.tmp 17) (.tmp 16) rfl g5 3 (Sh.bcells l) rfl rfl ?_ ?_ (Sh.bcells_one l) ?_
    · rw [Sh.bcells_size, HL.out.1]; exact HW5.out.midthere 3 32 (by rw [HS.out.1]; omega)
    · rw [Sh.bcells_size, HL.out.1]; exact info49
    obtain ⟨Y', hY'⟩ : ∃ Y', (tcells ⟨h, z, true, l⟩).toArray = Y' := ⟨_, rfl⟩
    have HY : Hid (Whole (w2.setCells g5 3 (Sh.bcells l).toList) g5 46 Y') := Lib.hid (by
      have h1 := HW5.out
      rw [← HYE.out] at h1
      rw [← hY']
      exact turn_store h1 HL.out.2 HL.out.1)
    have HZ : Hid (Whole (w2.setCells g5 3 (Sh.bcells l).toList) (w.heap.size + 1) 46 zt) := Lib.hid (HW45.out.setOther (by omega) _ 3)
    have HBY : Hid (Below w.heap.size w (w2.setCells g5 3 (Sh.bcells l).toList)) := Lib.hid (below_setCells w g5 _ 3 HB5.out (by omega))
    have HS : Hid (Y'.size = 35 ∧ Y'.all (·.oneCell') = true) := Lib.hid (by rw [← hY']; exact ⟨by rw [List.size_toArray]; exact tcells_len _ HL.out.1, tcells_all _⟩)
    have HYE := Lib.hid hY'
    clear hY' HW45 HB5 HRL5 HW5 HI1
    generalize w2.setCells g5 3 (Sh.bcells l).toList = wy at *
    go_upto_region 4 with (fail)
    refine wp_region_lit ?_
    refine wpList_load_mid rfl 46 (.tmp 5) rfl g5 0 rfl Y'.toList _ HY.out.range Tryd.underlying46 rfl (by rw [Array.length_toList, HS.out.1]; exact info46) ?_
    simp only [Act.put, List.setIfInBounds_toArray, List.set_cons_zero, List.set_cons_succ, Array.toArray_toList]
    refine wpList_store_mid rfl 46 (.tmp 4) (.tmp 18) rfl (w.heap.size + 1) 0 Y' rfl rfl ?_ ?_ HS.out.2 ?_
    · rw [HS.out.1]; have h1 := HZ.out.there_; rw [zt_size] at h1; exact h1
    · rw [HS.out.1]; exact info46
    have HWA : Hid (Whole (wy.setCells (w.heap.size + 1) 0 Y'.toList) (w.heap.size + 1) 46 Y') := Lib.hid (HZ.out.setAll (by rw [HS.out.1]; exact zt_size))
    have HBA : Hid (Below w.heap.size w (wy.setCells (w.heap.size + 1) 0 Y'.toList)) := Lib.hid (below_setCells w (w.heap.size + 1) _ 0 HBY.out (by omega))
    generalize wy.setCells (w.heap.size + 1) 0 Y'.toList = wA at *
    go_wp2_with fail
    refine bodyPost_ret (results_cell1 Tryd.results36 _ _ _ ⟨w.heap.size + 1, 0, none⟩ _ rfl (load_whole HWA.out 46 _ Tryd.underlying46 rfl (by rw [HS.out.1]; exact info46))) rfl ?_
    exact ⟨by rw [← HYE.out], HBA.out⟩
  | false =>
    have HY := HW5
    have HZ := HW45
    have HBY := HB5
    clear HW5 HW45 HB5 HRL5 HI1
    generalize w2 = wy at *
    go_upto_region 4 with (fail)
    refine wp_region_lit ?_
    refine wpList_load_mid rfl 46 (.tmp 5) rfl g5 0 rfl Y.toList _ HY.out.range Tryd.underlying46 rfl (by rw [Array.length_toList, HS.out.1]; exact info46) ?_
    simp only [Act.put, List.setIfInBounds_toArray, List.set_cons_zero, List.set_cons_succ, Array.toArray_toList]
    refine wpList_store_mid rfl 46 (.tmp 4) (.tmp 18) rfl (w.heap.size + 1) 0 Y rfl rfl ?_ ?_ HS.out.2 ?_
    · rw [HS.out.1]; have h1 := HZ.out.there_; rw [zt_size] at h1; exact h1
    · rw [HS.out.1]; exact info46
    have HWA : Hid (Whole (wy.setCells (w.heap.size + 1) 0 Y.toList) (w.heap.size + 1) 46 Y) := Lib.hid (HZ.out.setAll (by rw [HS.out.1]; exact zt_size))
    have HBA : Hid (Below w.heap.size w (wy.setCells (w.heap.size + 1) 0 Y.toList)) := Lib.hid (below_setCells w (w.heap.size + 1) _ 0 HBY.out (by omega))
    generalize wy.setCells (w.heap.size + 1) 0 Y.toList = wA at *
    go_wp2_with fail
    refine bodyPost_ret (results_cell1 Tryd.results36 _ _ _ ⟨w.heap.size + 1, 0, none⟩ _ rfl (load_whole HWA.out 46 _ Tryd.underlying46 rfl (by rw [HS.out.1]; exact info46))) rfl ?_
    exact ⟨by rw [← HYE.out], HBA.out⟩
end Go.Proofs.YtehmkkccnadhoaaDoor
