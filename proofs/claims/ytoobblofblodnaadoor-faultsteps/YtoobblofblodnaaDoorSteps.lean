/-
  steps(err): the Steps that err is, and wraps, the outermost first.
-/
import Derived.Test.YtoobblofblodnaaDoorApp
namespace Go.Proofs.YtoobblofblodnaaDoor
open Go.RowKit Go.Shelf
attribute [local go_sem] Oper.semAt_some

def stepPtr (b : Nat) : Value := .pointer (some ⟨b, 0, none⟩)
def stepsOf (l : List Err) : List Nat := l.flatMap Err.own

theorem stepsOf_layers : ∀ e : Err, stepsOf e.layers = e.blocks
  | .num _ => rfl
  | .text _ => rfl
  | .step b s n e => by
    have := stepsOf_layers e
    simp only [stepsOf] at this
    simp [stepsOf, Err.layers, Err.own, Err.blocks, this]
  | .other e => by
    have := stepsOf_layers e
    simp only [stepsOf] at this
    simp [stepsOf, Err.layers, Err.own, Err.blocks, this]
theorem stepsOf_snoc (l : List Err) (x : Err) : stepsOf (l ++ [x]) = stepsOf l ++ x.own := by simp [stepsOf]
theorem own_le (x : Err) : x.own.length ≤ 1 := by cases x <;> simp [Err.own]
theorem stepsOf_le : ∀ l : List Err, (stepsOf l).length ≤ l.length
  | [] => by simp [stepsOf]
  | x :: l => by
    have h1 := stepsOf_le l
    have h2 := own_le x
    simp only [stepsOf] at h1
    simp only [stepsOf, List.flatMap_cons, List.length_append, List.length_cons]
    omega
theorem layers_length : ∀ e : Err, e.layers.length = e.depth
  | .num _ => rfl
  | .text _ => rfl
  | .step _ _ _ e => by simp [Err.layers, Err.depth, layers_length e]
  | .other e => by simp [Err.layers, Err.depth, layers_length e]

/-- What steps has found so far, in the box Bf. -/
def Found (B Bf : Nat) (l : List Nat) (O : Blocks) (W : World) : Prop :=
  ∃ v, W.heap[Bf]? = some (.cells #[v] 60 (0, 0)) ∧ W.ownsRow B 40 1 v l.length (l.map stepPtr) ∧ O Bf ∧ (∀ g, v.ownBlock = some g → O g ∧ g ≠ Bf)

theorem ownsRow_same {W W' : World} {B : Nat} {e : TypeId} {v : Value} {n : Nat} {xs : List Value} (h : W.ownsRow B e 1 v n xs) (hk : ∀ g, v.ownBlock = some g → W'.heap[g]? = W.heap[g]?) : W'.ownsRow B e 1 v n xs := by
  refine ⟨h.1, ?_⟩
  rcases h.2 with h | ⟨g, cap, cur, rfl, h2, h3, h4⟩
  · exact .inl h
  · exact .inr ⟨g, cap, cur, rfl, h2, (hk g rfl).trans h3, h4⟩

theorem found_stable (B0 B Bf : Nat) : Stable B0 (fun (l : List Err) O W => Found B Bf (stepsOf l) O W) := by
  rintro l O W W' ⟨v, h1, h2, h3, h4⟩ _ hk
  exact ⟨v, (hk _ (.inl h3)).trans h1, ownsRow_same h2 (fun g hg => hk g (.inl (h4 g hg).1)), h3, h4⟩

theorem info40 : (Tryd.prog.info? 40).map (fun i => (i.zero, i.size, i.bytes)) = some (some (.pointer none), 1, 8) := by kernel_rfl

theorem leaves_mark1 {m D : Nat} {fn : Func} {tmps : Array Value} {R : Ending → World → Prop} {W : World} {v : Value} (hD : W.heap[D]? = some (.deferred (some [])))
    (hres : (results fn tmps).run Tryd.prog (W.putObj D (.deferred none)) = .ok v (W.putObj D (.deferred none))) (hR : R (.returned v) (W.putObj D (.deferred none))) :
    LeavesInM Fence.wide m Tryd.prog fn tmps R [{ target := .collected D, args := #[] }] .returning W :=
  ⟨by simp, .inl ⟨D, _, rfl, run_takeDeferred hD, ⟨v, hres, hR⟩⟩⟩

theorem nePtr (b : Nat) (w : World) : (binOp .neq 40 (.pointer (some ⟨b, 0, none⟩)) (.pointer none)).run Tryd.prog w = .ok (.bool true) w := by kernel_rfl

theorem src_one (W : World) (v : Value) (t : TypeId) : ∀ j u, [v][j]? = some u → (W.alloc (.cells #[v] t)).cell? ((⟨W.heap.size, 0, none⟩ : Addr).add j) = some u := by
  intro j u hj
  cases j with
  | zero => simp at hj; subst hj; exact cNew rfl
  | succ j => simp at hj
theorem one_ptr (a : Option Addr) : ∀ u ∈ [Value.pointer a], u.oneCell' = true := by
  intro u hu; simp at hu; subst hu; rfl

set_option maxRecDepth 100000 in
set_option maxHeartbeats 4000000 in
theorem steps_any (e : Err) (w : World) (he : e.In w) (hd : e.depth ≤ 900) :
    Calls Tryd.prog 28 #[e.val] w fun ev w' => ∃ v, ev = .returned v ∧ w'.ownsRow w.heap.size 40 1 v e.blocks.length (e.blocks.map stepPtr) ∧ Below w.heap.size w w' := by
  obtain ⟨tv, xv, hv⟩ := e.val_iface
  have htop := he.top_le
  obtain ⟨n0, _⟩ : ∃ n0 : Nat, n0 = n0 := ⟨9, rfl⟩
  rw [hv]
  refine (callsIn_wide (n := n0)).1 ?_
  refine callsIn_of_wp_marks Tryd.func28 rfl trivial ?_ rfl
  simp only [Tryd.ntmps28, List.size_toArray, List.length_cons, List.length_nil, Nat.reduceAdd, Nat.reduceSub, Array.replicate_succ, Array.replicate_zero, List.push_toArray, List.append_toArray, List.nil_append, List.cons_append]
  gi_wp2_with (fail)
  refine ⟨trivial, fun h => (by simp [Fence.wide] at h), (callsW (layers_any tv xv _)).mono ?_⟩
  rintro ev W0 ⟨rfl, rfl⟩
  gi_wp2_with (fail)
  have hF0 : ((w.alloc (.cells #[.slice none 0 0] 60)).alloc (.cells #[.iface tv xv] 27)).heap[w.heap.size]? = some (.cells #[.slice none 0 0] 60 (0, 0)) :=
    (Below.heap_alloc _ _ _ (by simp)).trans (World.alloc_heap_new w _)
  have hE0 : ((w.alloc (.cells #[.slice none 0 0] 60)).alloc (.cells #[.iface tv xv] 27)).cell? ⟨w.heap.size + 1, 0, none⟩ = some (.iface tv xv) := by rw [cNew (by simp)]; rfl
  have hb0 : Below w.heap.size w ((w.alloc (.cells #[.slice none 0 0] 60)).alloc (.cells #[.iface tv xv] 27)) := ((Below.refl _ w).alloc (Nat.le_refl _) _).alloc (by simp) _
  have hs0 : ((w.alloc (.cells #[.slice none 0 0] 60)).alloc (.cells #[.iface tv xv] 27)).heap.size = w.heap.size + 1 + 1 := by simp
  generalize (w.alloc (.cells #[.slice none 0 0] 60)).alloc (.cells #[.iface tv xv] 27) = W0 at hF0 hE0 hb0 hs0 ⊢
  refine range_law (α := Err) w.heap.size (gf := 36) (lb := #[.pointer (some ⟨w.heap.size + 1, 0, none⟩)]) (by simp [Act.eval]) enters36 (encs := fun x : Err => #[x.val]) (ok := (· <+: e.layers)) (S := (· = e.layers)) (fun _ => rfl) (by omega)
    (fun i => i = w.heap.size) (fun i hi => by omega)
    (fun W1 hb1 hs1 => layers_iter e _ _ (w.heap.size + 1) w.heap.size _ W1 ((hb1.cell (p := ⟨w.heap.size + 1, 0, none⟩) (by simp; omega)).trans (by rw [hE0, hv])) ((he.below hb0 htop).below hb1 (by omega)) htop (by omega) (by rintro i (h | h | h) <;> omega) hd)
    (fun l O W => Found w.heap.size w.heap.size (stepsOf l) O W) (fun _ _ _ _ => False) (found_stable _ _ _) (fun _ _ _ _ _ h _ _ => h)
    ⟨.slice none 0 0, hF0, ⟨rfl, .inl ⟨rfl, rfl⟩⟩, rfl, fun g hg => by simp [Value.ownBlock] at hg⟩ ?round ?done (fun _ _ _ _ _ h _ _ _ => h.elim)
  case round =>
    rintro l pre x O W hI hO hok hsz hl hlt _
    have hlen : (stepsOf pre).length + 1 ≤ 900 := by
      have h1 := stepsOf_le pre
      have h2 := hok.length_le
      rw [layers_length] at h2
      simp at h2
      omega
    have stay : ∀ W3 : World, W3.heap.size = W.heap.size → (∀ k, k ≠ l → W3.heap[k]? = W.heap[k]?) → Found w.heap.size w.heap.size (stepsOf pre) O W3 := fun W3 hs3 hb3 =>
      found_stable 0 _ _ pre O W W3 hI (by omega) (fun k hk => hb3 k (fun e' => by subst e'; rcases hk with h | h; exact hl h; omega))
    cases x with
    | num n =>
      have q := tA24_40
      dsimp only [Err.val]
      gi_wp2
      refine ⟨O, Ext.refl hO, ?_⟩
      intro W3 hs3 hb3 ho3 ht3 hu3
      have hI3 := stay W3 hs3 hb3
      have hO3 : ∀ k, O k → k < W3.heap.size := fun k hk => by have := hO k hk; omega
      clear hs3 ho3 ht3 hu3
      gi_wp2
      exact ⟨O, Ext.refl hO3, by show Found _ _ (stepsOf (pre ++ [_])) O W3; rw [stepsOf_snoc]; simpa [Err.own] using hI3⟩
    | text b =>
      have q := tA94_40
      dsimp only [Err.val]
      gi_wp2
      refine ⟨O, Ext.refl hO, ?_⟩
      intro W3 hs3 hb3 ho3 ht3 hu3
      have hI3 := stay W3 hs3 hb3
      have hO3 : ∀ k, O k → k < W3.heap.size := fun k hk => by have := hO k hk; omega
      clear hs3 ho3 ht3 hu3
      gi_wp2
      exact ⟨O, Ext.refl hO3, by show Found _ _ (stepsOf (pre ++ [_])) O W3; rw [stepsOf_snoc]; simpa [Err.own] using hI3⟩
    | other y =>
      have q := tA43_40
      dsimp only [Err.val]
      gi_wp2
      refine ⟨O, Ext.refl hO, ?_⟩
      intro W3 hs3 hb3 ho3 ht3 hu3
      have hI3 := stay W3 hs3 hb3
      have hO3 : ∀ k, O k → k < W3.heap.size := fun k hk => by have := hO k hk; omega
      clear hs3 ho3 ht3 hu3
      gi_wp2
      exact ⟨O, Ext.refl hO3, by show Found _ _ (stepsOf (pre ++ [_])) O W3; rw [stepsOf_snoc]; simpa [Err.own] using hI3⟩
    | step b s n y =>
      have q := tA40_40
      have hnp := nePtr b
      dsimp only [Err.val]
      gi_wp2
      refine ⟨O, Ext.refl hO, ?_⟩
      intro W3 hs3 hb3 ho3 ht3 hu3
      have hI3 := stay W3 hs3 hb3
      have hO3 : ∀ k, O k → k < W3.heap.size := fun k hk => by have := hO k hk; omega
      have hs3' : w.heap.size + 1 ≤ W3.heap.size := by omega
      clear hs3 ho3 ht3 hu3
      obtain ⟨v, h1, h2, h3, h4⟩ := hI3
      have c1 : W3.cell? ⟨w.heap.size, 0, none⟩ = some v := cell_of_block h1 0
      have f1 : W3.frozen? ⟨w.heap.size, 0, none⟩ = false := frozen_of_block h1
      obtain ⟨i0, hi, hz0, hz1, hz2⟩ := info_parts info40
      have hown : (W3.alloc (.cells #[.pointer (some ⟨b, 0, none⟩)] 40)).ownsRow w.heap.size 40 1 v (stepsOf pre).length ((stepsOf pre).map stepPtr) := ownsRow_same h2 (fun g hg => Below.heap_alloc _ _ _ (hO3 g (h4 g hg).1))
      gi_wp2_with (gi_at_builtin; refine wpListIn_append_set _ rfl _ _ 60 rfl w.heap.size 40 i0 (.pointer none) 8 Tryd.underlying60 hi hz0 hz1 hz2 rfl v (stepsOf pre).length ((stepsOf pre).map stepPtr) rfl hown ⟨W3.heap.size, 0, none⟩ 1 (.pointer (some ⟨b, 0, none⟩)) rfl (src_one _ _ _) (one_ptr _) (by simp only [maxLen]; omega) (by omega) (by simp; omega) ?_; intro v' w1 hown' hgrow hset; obtain ⟨g', cap', rfl⟩ := ownsRow_succ hown'; have gB : w1.heap[w.heap.size]? = some (.cells #[v] 60 (0, 0)) := (hgrow.block _ (by simp; omega) (fun e' => (h4 _ e'.symm).2 rfl)).trans ((Below.heap_alloc _ _ _ (by omega)).trans h1); have cB : w1.cell? ⟨w.heap.size, 0, none⟩ = some v := cell_of_block gB 0; have fB : w1.frozen? ⟨w.heap.size, 0, none⟩ = false := frozen_of_block gB)
      have hsw : W3.heap.size + 1 ≤ w1.heap.size := by have := hgrow.size; simpa using this
      have hg' := ownsRow_block hown' rfl
      have hOg : O g' ∧ g' ≠ w.heap.size ∨ W3.heap.size ≤ g' := by
        rcases hset g' rfl with h | h
        · exact .inl (h4 g' h)
        · rw [World.size_alloc] at h
          exact .inr (by omega)
      refine ⟨fun k => O k ∨ (W3.heap.size ≤ k ∧ k < w1.heap.size), ⟨?_, ?_⟩, ?_⟩
      · exact (((Kept.refl O W3).alloc _).grown hgrow (fun k hk _ => (h4 k hk).1)).setCell (p := ⟨w.heap.size, 0, none⟩) (fun _ => h3) _
      · intro k hk
        rw [sSet]
        rcases hk with hk | hk
        · exact ⟨.inl hk, by have := hO3 k hk; omega⟩
        · exact ⟨.inr hk.1, hk.2⟩
      · show Found _ _ (stepsOf (pre ++ [_])) _ _
        rw [stepsOf_snoc]
        refine ⟨_, block_setCell gB, ?_, .inl h3, ?_⟩
        · have := ownsRow_same (W' := w1.setCell ⟨w.heap.size, 0, none⟩ (.slice (some ⟨g', 0, none⟩) ((stepsOf pre).length + 1) cap')) hown' (fun g hg => by
            simp only [Value.ownBlock, Option.some.injEq] at hg
            subst hg
            exact Below.heap_setCell _ _ _ _ (by rcases hOg with h | h; exact h.2; simp; omega))
          simpa [Err.own, stepPtr] using this
        · intro g hg
          simp only [Value.ownBlock, Option.some.injEq] at hg
          subst hg
          rcases hOg with h | h
          · exact ⟨.inl h.1, h.2⟩
          · exact ⟨.inr ⟨h, hg'.2⟩, by omega⟩
  case done =>
    rintro xs O' W rfl ⟨v, h1, h2, h3, h4⟩ hE hnD hD
    rw [stepsOf_layers] at h2
    have c1 : W.cell? ⟨w.heap.size, 0, none⟩ = some v := cell_of_block h1 0
    have kf : Below w.heap.size w (W.putObj W0.heap.size (.deferred none)) := by
      have k1 : Kept (fun i => w.heap.size ≤ i) w W := (Kept.of_below hb0).trans hE.kept (by intro i hi h; omega)
      exact (k1.putObj (fun h => by omega) _).below (Nat.le_refl _) (fun k hk => by omega)
    have hown : (W.putObj W0.heap.size (.deferred none)).ownsRow w.heap.size 40 1 v e.blocks.length (e.blocks.map stepPtr) := ownsRow_same h2 (fun g hg => World.putObj_heap_other (fun e' => hnD (e' ▸ (h4 g hg).1)))
    gi_wp2_with (fail)
    exact leaves_mark1 hD (results_tmp rfl _ _ _) ⟨v, rfl, hown, kf⟩
end Go.Proofs.YtoobblofblodnaaDoor
