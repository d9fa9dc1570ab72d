/-
  What Save of a base does: a tree's root is there, what was there stays; conditions: the base and the tree lie in memory.
-/
import Derived.Test.YtolkpjbbfopmnaaDoorBSaveA
namespace Go.Proofs.YtolkpjbbfopmnaaDoor
open Go.RowKit Go.Shelf
open Tr

/-- What is there behind a Save: the root of a tree, as its own node if it was not there ahead. -/
def Saved (pb M : Nat) (o : Option T) (ms : List (List UInt8 × Value)) (w w' : World) : Prop :=
  ∃ ms', BAt w' pb M ms' ∧ NVals ms' ∧ (∀ k v, MAt.look ms k = some v → MAt.look ms' k = some v) ∧ (∀ t, o = some t → ∃ v, MAt.look ms' t.sum = some v ∧ (MAt.look ms t.sum = none → NodeV w' w.heap.size t v)) ∧ (o = none → ms' = ms) ∧ Fr M none w w'
theorem node_more {w : World} {B B' : Nat} {s : T} {v : Value} (h : NodeV w B s v) (hB : B' ≤ B) : NodeV w B' s v := by
  obtain ⟨cs, A, n, c, A', n', c', e, h⟩ := h
  exact ⟨cs, A, n, c, A', n', c', e, told_more h hB⟩
theorem node_fr {M : Nat} {row : Option Nat} {w w' : World} {B : Nat} {s : T} {v : Value} (h : NodeV w B s v) (hf : Fr M row w w') (hM : M < B) (hr : ∀ r, row = some r → r < B) : NodeV w' B s v := by
  obtain ⟨cs, A, n, c, A', n', c', e, h⟩ := h
  exact ⟨cs, A, n, c, A', n', c', e, told_fr h hf hM hr⟩
/-- save from the root. -/
theorem save_root (pb M g0t : Nat) (o : Option T) (ms : List (List UInt8 × Value)) (w : World) (hB : BAt w pb M ms) (hV : NVals ms) (hT : TIn (fun b => b ≠ M) w w.heap.size o g0t) (htn : ∀ t, o = some t → t.n ≤ 1000) :
    Calls Tryd.prog 48 #[ptr (some pb), .agg (Sh.bcells (osum o)), ptr (some g0t), .slice none 0 0] w fun e w' => e = .returned undef ∧ Saved pb M o ms w w' := by
  cases o with
  | none =>
    refine (save_none pb M g0t _ (osum32 none) ms w hB hV hT).mono ?_
    rintro e w' ⟨rfl, hb⟩
    exact ⟨rfl, ms, hB.below hb, hV, fun _ _ h => h, fun t h => (by cases h), fun _ => rfl, Fr.of_below hb⟩
  | some t =>
    refine (save_any pb M w.heap.size g0t t hB.1.lt hB.2.1.lt (htn t rfl) t [] none 0 0 ms w hB hV (Nat.le_refl _) hT (oat_nil _) ⟨rfl, .inl ⟨rfl, rfl⟩⟩).mono ?_
    rintro e w' ⟨rfl, ms', h1, h2, h3, h4, _, h5⟩
    exact ⟨rfl, ms', h1, h2, h3, fun t' e => by injection e with e; subst e; exact h4, fun h => (by cases h), h5⟩

set_option maxRecDepth 100000 in
set_option maxHeartbeats 600000 in
theorem save_tree (pb M g0t : Nat) (o : Option T) (ms : List (List UInt8 × Value)) (w : World) (hB : BAt w pb M ms) (hV : NVals ms) (hT : TIn (fun b => b ≠ M) w w.heap.size o g0t) (htn : ∀ t, o = some t → t.n ≤ 1000) (ht : Sh.Tab w 1) (hw1 : 1 < w.heap.size) :
    Calls Tryd.prog 16 #[ptr (some pb), ptr (some g0t)] w fun e w' => e = .returned (.tuple #[.agg (Sh.bcells (osum o)), .int .i64 0]) ∧ Saved pb M o ms w w' := by
  have hz49 := zero49
  have hE : ∀ u : World, (binOp .eql 94 (.map (some M)) (.map none)).run Tryd.prog u = .ok (.bool false) u := fun u => by with_unfolding_all rfl
  have hb : Below w.heap.size w (w.alloc (.cells (zb 32) 29)) := (Below.refl _ _).alloc (Nat.le_refl _) _
  have hw := Whole.made w 29 (zb 32)
  have cb : (w.alloc (.cells (zb 32) 29)).cell? ⟨pb, 0, none⟩ = some (.map (some M)) := (hb.cell (p := ⟨pb, 0, none⟩) hB.1.lt).trans (hB.1.at_ (i := 0) rfl)
  have hsw : (w.alloc (.cells (zb 32) 29)).heap.size = w.heap.size + 1 := size_alloc _ _
  have hT1 := (hT.below hb (Nat.le_refl _)).more (B' := (w.alloc (.cells (zb 32) 29)).heap.size) (by omega)
  have HRT := Lib.hid (root_any (G := fun b => b ≠ M) (some o) (some g0t) (w.alloc (.cells (zb 32) 29)) ⟨g0t, rfl, hT1⟩ (Sh.tab_below ht hb hw1) (by omega))
  rw [ptr_some] at HRT
  have HF := Lib.hid (And.intro hw (And.intro hb (And.intro hB (And.intro hV (And.intro hT htn)))))
  obtain ⟨gr, hgr⟩ : ∃ g, w.heap.size = g := ⟨_, rfl⟩
  have HG := Lib.hid hgr
  clear hb hw hB hV hT hT1 htn ht hw1
  rw [ptr_some, ptr_some]
  go_enter Tryd.func16, Tryd.ntmps16
  go_wp2_with fail
  refine HRT.out.mono ?_
  rintro e w2 ⟨rfl, hb2⟩
  rw [show topOf (some o) = o from rfl]
  have hl : (osum o).length = 32 := osum32 o
  simp only []
  have hsb2 := hb2.size
  clear HRT
  iterate 4 go_step
  clear hz49
  have hwm := Whole.made w2 29 (zb 32)
  refine wpList_store_mid rfl 29 (.tmp 6) (.tmp 24) rfl w2.heap.size 0 (Sh.bcells (osum o)) rfl rfl ?_ ?_ (Sh.bcells_one _) ?_
  · rw [show (Sh.bcells (osum o)).size = (zb 32).size from by rw [zb_size]; simp [Sh.bcells, hl]]; exact hwm.there_
  · rw [show (Sh.bcells (osum o)).size = (zb 32).size from by rw [zb_size]; simp [Sh.bcells, hl], zb_size]; exact info49
  have hws := hwm.setAll (vs := Sh.bcells (osum o)) (by rw [zb_size]; simp [Sh.bcells, hl])
  have hbs : Below w2.heap.size w2 ((w2.alloc (.cells (zb 32) 29)).setCells w2.heap.size 0 (Sh.bcells (osum o)).toList) := below_setCells w2 w2.heap.size _ 0 ((Below.refl _ _).alloc (Nat.le_refl _) _) (Nat.le_refl _)
  generalize (w2.alloc (.cells (zb 32) 29)).setCells w2.heap.size 0 (Sh.bcells (osum o)).toList = w3 at *
  obtain ⟨g6, hg6⟩ : ∃ g, w2.heap.size = g := ⟨_, rfl⟩
  rw [hg6] at hws ⊢
  have hb3 : Below w.heap.size w w3 := (HF.out.2.1.trans (hb2.mono (by omega))).trans (hbs.mono (by omega))
  have hws3 : w.heap.size ≤ w3.heap.size := hb3.size
  have hs3 : w2.heap.size ≤ w3.heap.size := hbs.size
  have h6 : w3.rangeAt g6 0 ((osum o).map V8) := hws.range
  have hI6 : (Tryd.prog.info? 29).map (·.size) = some ((osum o).map V8).length := by rw [List.length_map, hl]; exact info49
  have HR := Lib.hid (save_root pb M g0t o ms w3 (HF.out.2.2.1.below hb3) HF.out.2.2.2.1 ((HF.out.2.2.2.2.1.below hb3 (Nat.le_refl _)).more hws3) HF.out.2.2.2.2.2)
  rw [ptr_some, ptr_some] at HR
  have HW3 := Lib.hid (And.intro hws (hb2.trans (hbs.mono hsb2)))
  have HB3 := Lib.hid hb3
  have HS := Lib.hid (And.intro hs3 hws3)
  clear hb2 hbs hwm hb3 hws hs3 hws3
  go_upto_region 6 with (fail)
  refine wp_region_lit ?_
  iterate 3 go_step
  refine wpList_load_mid rfl 29 (.tmp 6) rfl g6 0 rfl _ _ h6 Tryd.underlying29 rfl hI6 ?_
  simp only [Act.put, List.setIfInBounds_toArray, List.set_cons_zero, List.set_cons_succ]
  go_wp2_with fail
  refine HR.out.mono ?_
  rintro e w4 ⟨rfl, ms', hB4, hV4, hk4, hn4, he4, hf4⟩
  simp only []
  have hg6l : g6 < w3.heap.size := HW3.out.1.lt
  have hMl : M < w.heap.size := HF.out.2.2.1.2.1.lt
  have hpl : pb < w.heap.size := HF.out.2.2.1.1.lt
  have hgrl : gr < w3.heap.size := by have := HS.out; have := HW3.out.2.size; rw [hsw] at this; have := HG.out; omega
  have h64 : w4.rangeAt g6 0 ((osum o).map V8) := range_fr h6 hf4 hg6l (by have := HS.out; have := hg6; omega) (fun e => by cases e)
  have hwr : Whole w4 gr 29 (zb 32) := (hf4.block gr hgrl (by have := HG.out; omega) (fun e => by cases e)).trans (by rw [← HG.out]; exact HF.out.1.below HW3.out.2 (by rw [hsw]; omega))
  have H4 := Lib.hid (And.intro hB4 (And.intro hV4 (And.intro hk4 (And.intro hn4 (And.intro he4 hf4)))))
  have HS2 := Lib.hid (And.intro hg6l (And.intro hMl (And.intro hpl hgrl)))
  clear hB4 hV4 hk4 hn4 he4 hf4 HR h6 hg6l hMl hpl hgrl
  go_upto_region 7 with (fail)
  refine wp_region_lit ?_
  refine wpList_load_mid rfl 29 (.tmp 6) rfl g6 0 rfl _ _ h64 Tryd.underlying29 rfl hI6 ?_
  simp only [Act.put, List.setIfInBounds_toArray, List.set_cons_zero, List.set_cons_succ]
  refine wpList_store_mid rfl 29 (.tmp 4) (.tmp 29) rfl gr 0 (Sh.bcells (osum o)) rfl rfl ?_ ?_ (Sh.bcells_one _) ?_
  · rw [show (Sh.bcells (osum o)).size = (zb 32).size from by rw [zb_size]; simp [Sh.bcells, hl]]; exact hwr.there_
  · rw [show (Sh.bcells (osum o)).size = (zb 32).size from by rw [zb_size]; simp [Sh.bcells, hl], zb_size]; exact info49
  have hw5 := hwr.setAll (vs := Sh.bcells (osum o)) (by rw [zb_size]; simp [Sh.bcells, hl])
  have hb5 : Below gr w4 (w4.setCells gr 0 (Sh.bcells (osum o)).toList) := below_setCells w4 gr _ 0 (Below.refl _ _) (Nat.le_refl _)
  have hf5 : Fr gr none w4 (w4.setCells gr 0 (Sh.bcells (osum o)).toList) := ⟨hb5.os, hb5.tape, hb5.output, by rw [size_setCells]; exact Nat.le_refl _, fun k _ hk _ => setCells_other gr _ 0 w4 k hk⟩
  generalize w4.setCells gr 0 (Sh.bcells (osum o)).toList = w5 at *
  have hpost : Saved pb M o ms w w5 := by
    obtain ⟨hB4, hV4, hk4, hn4, he4, hf4⟩ := H4.out
    have hS := HS2.out
    have hG := HG.out
    have hH := HS.out
    refine ⟨ms', ⟨(hf5.block pb hB4.1.lt (by omega) (fun e => by cases e)).trans hB4.1, hB4.2.1.block (hf5.block M hB4.2.1.lt (by omega) (fun e => by cases e)), hB4.2.2⟩, hV4, hk4, fun t ht => ?_, he4, ?_⟩
    · obtain ⟨v, h1, h2⟩ := hn4 t ht
      exact ⟨v, h1, fun hno => node_more (node_fr (h2 hno) hf5 hS.2.2.2 (fun r hr => by cases hr)) hH.2⟩
    · have h34 := (Fr.of_below (M := M) (row := none) HB3.out).trans hf4
      exact ⟨h34.os.symm ▸ hf5.os, h34.tape.symm ▸ hf5.tape, h34.output.symm ▸ hf5.output, Nat.le_trans h34.size hf5.size, fun k hk hM hr => (hf5.block k (Nat.lt_of_lt_of_le hk h34.size) (by omega) hr).trans (h34.block k hk hM hr)⟩
  have HPOST := Lib.hid (And.intro hpost hw5)
  clear hpost hw5 hb5 hf5 hwr h64
  go_wp2_with fail
  refine bodyPost_ret (results_cell2 Tryd.results16 _ _ _ ⟨gr, 0, none⟩ _ rfl (load_whole HPOST.out.2 29 _ Tryd.underlying29 rfl (by rw [Sh.bcells_size, hl]; exact info49))) rfl ?_
  exact ⟨rfl, HPOST.out.1⟩
end Go.Proofs.YtolkpjbbfopmnaaDoor
