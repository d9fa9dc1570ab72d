/-
  Where(err): where the Steps were met, the outermost first; of none nothing.
-/
import Derived.Test.YtoobblofblodnaaDoorSteps
import Derived.OwnWalk
namespace Go.Proofs.YtoobblofblodnaaDoor
open Go.RowKit Go.Shelf
attribute [local go_sem] Oper.semAt_some

set_option maxRecDepth 100000 in
set_option maxHeartbeats 4000000 in
theorem steps_nil (w : World) :
    Calls Tryd.prog 28 #[.nilIface] w fun ev w' => ∃ v, ev = .returned v ∧ w'.ownsRow w.heap.size 40 1 v 0 [] ∧ Below w.heap.size w w' := by
  obtain ⟨n0, _⟩ : ∃ n0 : Nat, n0 = n0 := ⟨9, rfl⟩
  refine (callsIn_wide (n := n0)).1 ?_
  refine callsIn_of_wp_marks Tryd.func28 rfl trivial ?_ rfl
  simp only [Tryd.ntmps28, List.size_toArray, List.length_cons, List.length_nil, Nat.reduceAdd, Nat.reduceSub, Array.replicate_succ, Array.replicate_zero, List.push_toArray, List.append_toArray, List.nil_append, List.cons_append]
  gi_wp2_with (fail)
  refine ⟨trivial, fun h => (by simp [Fence.wide] at h), (callsW (layers_nil _)).mono ?_⟩
  rintro ev W0 ⟨rfl, rfl⟩
  gi_wp2_with (fail)
  have hF0 : ((w.alloc (.cells #[.slice none 0 0] 60)).alloc (.cells #[.nilIface] 27)).heap[w.heap.size]? = some (.cells #[.slice none 0 0] 60 (0, 0)) :=
    (Below.heap_alloc _ _ _ (by simp)).trans (World.alloc_heap_new w _)
  have hE0 : ((w.alloc (.cells #[.slice none 0 0] 60)).alloc (.cells #[.nilIface] 27)).cell? ⟨w.heap.size + 1, 0, none⟩ = some .nilIface := by rw [cNew (by simp)]; rfl
  have hb0 : Below w.heap.size w ((w.alloc (.cells #[.slice none 0 0] 60)).alloc (.cells #[.nilIface] 27)) := ((Below.refl _ w).alloc (Nat.le_refl _) _).alloc (by simp) _
  have hs0 : ((w.alloc (.cells #[.slice none 0 0] 60)).alloc (.cells #[.nilIface] 27)).heap.size = w.heap.size + 1 + 1 := by simp
  generalize (w.alloc (.cells #[.slice none 0 0] 60)).alloc (.cells #[.nilIface] 27) = W0 at hF0 hE0 hb0 hs0 ⊢
  refine range_law (α := Err) w.heap.size (gf := 36) (lb := #[.pointer (some ⟨w.heap.size + 1, 0, none⟩)]) (by simp [Act.eval]) enters36 (encs := fun x : Err => #[x.val]) (ok := fun _ => False) (S := (· = [])) (fun _ => rfl) (by omega)
    (fun i => i = w.heap.size) (fun i hi => by omega)
    (fun W1 hb1 hs1 => layers_iter_nil _ _ _ (w.heap.size + 1) _ W1 (by omega) ((hb1.cell (p := ⟨w.heap.size + 1, 0, none⟩) (by simp; omega)).trans hE0))
    (fun l O W => Found w.heap.size w.heap.size (stepsOf l) O W) (fun _ _ _ _ => False) (found_stable _ _ _) (fun _ _ _ _ _ h _ _ => h)
    ⟨.slice none 0 0, hF0, ⟨rfl, .inl ⟨rfl, rfl⟩⟩, rfl, fun g hg => by simp [Value.ownBlock] at hg⟩ (fun _ _ _ _ _ _ _ h _ _ _ _ => h.elim) ?done (fun _ _ _ _ _ h _ _ _ => h.elim)
  case done =>
    rintro xs O' W rfl ⟨v, h1, h2, h3, h4⟩ hE hnD hD
    have c1 : W.cell? ⟨w.heap.size, 0, none⟩ = some v := cell_of_block h1 0
    have kf : Below w.heap.size w (W.putObj W0.heap.size (.deferred none)) := by
      have k1 : Kept (fun i => w.heap.size ≤ i) w W := (Kept.of_below hb0).trans hE.kept (by intro i hi h; omega)
      exact (k1.putObj (fun h => by omega) _).below (Nat.le_refl _) (fun k hk => by omega)
    have hown : (W.putObj W0.heap.size (.deferred none)).ownsRow w.heap.size 40 1 v 0 [] := ownsRow_same h2 (fun g hg => World.putObj_heap_other (fun e' => hnD (e' ▸ (h4 g hg).1)))
    gi_wp2_with (fail)
    exact leaves_mark1 hD (results_tmp rfl _ _ _) ⟨v, rfl, hown, kf⟩

theorem places_length : ∀ e : Err, e.places.length = e.blocks.length
  | .num _ => rfl
  | .text _ => rfl
  | .step _ _ _ e => by simp [Err.places, Err.blocks, places_length e]
  | .other e => by simp [Err.places, Err.blocks, places_length e]
theorem blocks_le : ∀ e : Err, e.blocks.length < e.depth
  | .num _ => by simp [Err.blocks, Err.depth]
  | .text _ => by simp [Err.blocks, Err.depth]
  | .step _ _ _ e => by have := blocks_le e; simp [Err.blocks, Err.depth]; omega
  | .other e => by have := blocks_le e; simp [Err.blocks, Err.depth]; omega
theorem blocks_lt : ∀ {e : Err}, ∀ b ∈ e.blocks, ∀ {w : World}, e.In w → b < e.top
  | .step b _ _ e, x, hx, w, h => by
    simp only [Err.blocks, List.mem_cons] at hx
    rcases hx with rfl | hx
    · simp [Err.top]
    · have := blocks_lt x hx h.2.2
      have h2 := h.2.1
      simp only [Err.top]
      omega
  | .other e, x, hx, w, h => blocks_lt (e := e) x hx h
  | .num _, x, hx, _, _ => by simp [Err.blocks] at hx
  | .text _, x, hx, _, _ => by simp [Err.blocks] at hx
theorem place_cell : ∀ {e : Err} {w : World}, e.In w → ∀ (k b : Nat), e.blocks[k]? = some b → ∃ s, e.places[k]? = some s ∧ w.cell? ⟨b, 0, none⟩ = some (.string s)
  | .step b s n e, w, h, k, x, hx => by
    cases k with
    | zero =>
      simp [Err.blocks] at hx
      subst hx
      exact ⟨s, by simp [Err.places], cell_of_block h.1 0⟩
    | succ k =>
      simp [Err.blocks] at hx
      obtain ⟨s', h1, h2⟩ := place_cell h.2.2 k x hx
      exact ⟨s', by simp [Err.places, h1], h2⟩
  | .other e, w, h, k, x, hx => place_cell (e := e) h k x hx
  | .num _, _, _, k, x, hx => by simp [Err.blocks] at hx
  | .text _, _, _, k, x, hx => by simp [Err.blocks] at hx

theorem info9 : (Tryd.prog.info? 9).map (fun i => (i.zero, i.size, i.bytes)) = some (some (.string ⟨#[]⟩), 1, 16) := by kernel_rfl

/-- Where, of what steps has found. -/
def WhereR (w : World) (l : List ByteArray) (ev : Ending) (w' : World) : Prop := ∃ v, ev = .returned v ∧ w'.ownsRow w.heap.size 9 1 v l.length (l.map .string) ∧ Below w.heap.size w w'

theorem slice_of_row {w : World} {b : Nat} {e : TypeId} {v : Value} {n : Nat} {xs : List Value} (h : w.ownsRow b e 1 v n xs) :
    ∃ A cap, v = .slice A n cap ∧ n ≤ cap ∧ cap ≤ maxLen ∧ (n = 0 ∨ ∃ g, A = some ⟨g, 0, none⟩ ∧ g < w.heap.size ∧ ∀ (j : Nat) u, xs[j]? = some u → w.cell? ⟨g, j, none⟩ = some u) := by
  rcases h.2 with ⟨rfl, rfl⟩ | ⟨g, cap, cur, rfl, h2, h3, h4, h5, h6, h7⟩
  · exact ⟨none, 0, rfl, Nat.le_refl _, Nat.zero_le _, .inl rfl⟩
  · refine ⟨_, cap, rfl, h4, h5, .inr ⟨g, rfl, lt_of_block h3, fun j u hj => ?_⟩⟩
    rw [cell_of_block h3, ← Array.getElem?_toList]
    rw [← h7, List.getElem?_take] at hj
    split at hj
    · exact hj
    · cases hj

set_option maxRecDepth 100000 in
set_option maxHeartbeats 4000000 in
theorem where_any (e : Err) (w : World) (he : e.In w) (hd : e.depth ≤ 900) : Calls Tryd.prog 14 #[e.val] w (WhereR w e.places) := by
  have hst := steps_any e w he hd
  have hl := blocks_le e
  have hlp := places_length e
  obtain ⟨tv, xv, hv⟩ := e.val_iface
  have htop := he.top_le
  rw [hv] at hst ⊢
  obtain ⟨i0, hi, hz0, hz1, hz2⟩ := info_parts info9
  obtain ⟨n, hn⟩ : ∃ n, n = e.blocks.length := ⟨_, rfl⟩
  rw [← hn] at hst hl hlp
  have HN := Lib.hid hn
  have HLP := Lib.hid hlp
  have hpl : e.places.length ≤ n := by omega
  clear hn hlp
  go_enter Tryd.func14, Tryd.ntmps14
  go_wp2_with (fail)
  refine hst.mono ?_
  clear hst
  rintro ev W1 ⟨v, rfl, hrow, hb1⟩
  obtain ⟨A, cap, rfl, hc1, hc2, hcells⟩ := slice_of_row hrow
  have hs1 := hb1.size
  go_wp2_with (fail)
  go_loopw [3, 9] (fun p i wr => ∃ k : Nat, k ≤ n ∧ i = .int .i64 k ∧ wr.ownsRow W1.heap.size 9 1 p k ((e.places.take k).map .string) ∧ Below W1.heap.size W1 wr) (fun _ i _ => n - (intOf i).toNat)
  case atStart => exact ⟨0, Nat.zero_le _, rfl, ⟨rfl, .inl ⟨rfl, rfl⟩⟩, Below.refl _ _⟩
  case round =>
    obtain ⟨k, hk, rfl, hown, hbel⟩ := hrel
    have hsr := hbel.size
    by_cases hlt : k < n
    · obtain ⟨b, hbk⟩ : ∃ b, e.blocks[k]? = some b := ⟨_, List.getElem?_eq_getElem (by have := HN.out; omega)⟩
      obtain ⟨s, hsk, hsc⟩ := place_cell he k b hbk
      have hbl : b < w.heap.size := lt_of_cell hsc
      rcases hcells with h | ⟨g, rfl, hgl, hcells⟩
      · omega
      have cP : wr.cell? ⟨g, k, none⟩ = some (.pointer (some ⟨b, 0, none⟩)) := (hbel.cell (p := ⟨g, k, none⟩) hgl).trans (hcells k _ (by rw [List.getElem?_map, hbk]; rfl))
      have cS : wr.cell? ⟨b, 0, none⟩ = some (.string s) := (hbel.cell (p := ⟨b, 0, none⟩) (by simp; omega)).trans ((hb1.cell (p := ⟨b, 0, none⟩) hbl).trans hsc)
      have htk : e.places.take (k + 1) = e.places.take k ++ [s] := by rw [List.take_add_one, hsk]; rfl
      have HT := Lib.hid htk
      clear htk hcells hbk hsk hsc
      have hown1 : (wr.alloc (.cells #[.string s] 9)).ownsRow W1.heap.size 9 1 u3 k ((e.places.take k).map .string) := ownsRow_same hown (fun g hg => Below.heap_alloc _ _ _ (ownsRow_block hown hg).2)
      go_wp2_with (at_builtin; refine wpList_append_own _ rfl _ _ 33 rfl W1.heap.size 9 i0 (.string ⟨#[]⟩) 1 16 Tryd.underlying33 hi hz0 hz1 hz2 rfl (by decide) u3 k ((e.places.take k).map .string) rfl hown1 ⟨wr.heap.size, 0, none⟩ 1 1 [.string s] rfl rfl (src_one _ _ _) (by intro u hu; simp at hu; subst hu; rfl) (by simp only [maxLen]; omega) (by omega) (by simp; omega) ?_; intro v' w1 hown' hgrow _)
      have hbb : Below W1.heap.size W1 w1 := (hbel.alloc hsr _).grown hgrow (by simp; omega) (fun g hg => (ownsRow_block hown hg).1)
      refine ⟨⟨k + 1, by omega, by go_num, ?_, hbb⟩, by simp [intOf]; omega⟩
      rw [HT.out, List.map_append]
      exact hown'
    · go_wp2
      go_ret
      have hp := HLP.out
      have hkn : k = e.places.length := by omega
      subst hkn
      rw [List.take_length] at hown
      exact ⟨_, rfl, ownsRow_base hown hs1, hb1.trans (hbel.mono hs1)⟩

set_option maxRecDepth 100000 in
theorem where_nil (w : World) : Calls Tryd.prog 14 #[.nilIface] w (WhereR w []) := by
  have hst := steps_nil w
  go_enter Tryd.func14, Tryd.ntmps14
  go_wp2_with (fail)
  refine hst.mono ?_
  clear hst
  rintro ev W1 ⟨v, rfl, hrow, hb1⟩
  obtain ⟨A, cap, rfl, hc1, hc2, _⟩ := slice_of_row hrow
  go_wp2_with (fail)
  refine wp_loop_rounds 1 ?_
  rw [rounds_succ]
  go_wp2
  go_ret
  exact ⟨_, rfl, ⟨rfl, .inl ⟨rfl, rfl⟩⟩, hb1⟩
end Go.Proofs.YtoobblofblodnaaDoor
