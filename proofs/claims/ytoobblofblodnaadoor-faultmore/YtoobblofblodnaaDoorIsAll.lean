/-
  Is(err, code), of any error that the laws make, and of none.
-/
import Derived.Test.YtoobblofblodnaaDoorIsFn
namespace Go.Proofs.YtoobblofblodnaaDoor
open Go.RowKit Go.Shelf
attribute [local go_sem] Oper.semAt_some

theorem res12 {b : Addr} {v u0 u1 u2 u3 u5 u6 u7 u8 u9 u10 : Value} (W : World) (_ : Unit) (h : W.cell? b = some v) :
    (results Tryd.f12 #[u0, u1, u2, u3, .pointer (some b), u5, u6, u7, u8, u9, u10]).run Tryd.prog W = .ok v W := by
  simp [results, Tryd.results12, go_sem, h]

/-- What Is keeps: its result's box, the box of the number; no layer was that number. -/
def IsI (Br Bm : Nat) (m : Int) (l : List Err) (O : Blocks) (W : World) : Prop := (O Br ∧ W.heap[Br]? = some (.cells #[.bool false] 4 (0, 0))) ∧ (O Bm ∧ W.heap[Bm]? = some (.cells #[.int .i64 m] 24 (0, 0))) ∧ ∀ x ∈ l, x.selfIs m = false
def IsX (Br : Nat) (m : Int) (c : Code) (l : List Err) (O : Blocks) (W : World) : Prop := c = .ret ∧ O Br ∧ W.heap[Br]? = some (.cells #[.bool true] 4 (0, 0)) ∧ ∃ x ∈ l, x.selfIs m = true
theorem isI_stable (B Br Bm : Nat) (m : Int) : Stable B (IsI Br Bm m) := by
  rintro s O W W' ⟨⟨h1, h2⟩, ⟨h3, h4⟩, h5⟩ _ hk
  exact ⟨⟨h1, (hk _ (.inl h1)).trans h2⟩, ⟨h3, (hk _ (.inl h3)).trans h4⟩, h5⟩
theorem isX_stable (B Br : Nat) (m : Int) (c : Code) : Stable B (IsX Br m c) := by
  rintro s O W W' ⟨h1, h2, h3, h4⟩ _ hk
  exact ⟨h1, h2, (hk _ (.inl h2)).trans h3, h4⟩

set_option maxRecDepth 100000 in
set_option maxHeartbeats 4000000 in
theorem is_any (e : Err) (m : Int) (w : World) (he : e.In w) (hd : e.depth ≤ 900) : Calls Tryd.prog 12 #[e.val, .int .i64 m] w fun ev w' => ev = .returned (.bool (e.isNum m)) ∧ Below w.heap.size w w' := by
  obtain ⟨tv, xv, hv⟩ := e.val_iface
  have htop := he.top_le
  obtain ⟨n0, _⟩ : ∃ n0 : Nat, n0 = n0 := ⟨9, rfl⟩
  rw [hv]
  refine (callsIn_wide (n := n0)).1 ?_
  refine callsIn_of_wp_marks Tryd.func12 rfl trivial ?_ rfl
  simp only [Tryd.ntmps12, List.size_toArray, List.length_cons, List.length_nil, Nat.reduceAdd, Nat.reduceSub, Array.replicate_succ, Array.replicate_zero, List.push_toArray, List.append_toArray, List.nil_append, List.cons_append]
  gi_wp2_with (fail)
  refine ⟨trivial, fun h => (by simp [Fence.wide] at h), (callsW (layers_any tv xv _)).mono ?_⟩
  rintro ev W0 ⟨rfl, rfl⟩
  gi_wp2_with (fail)
  have hM0 : (((w.alloc (.cells #[.int .i64 m] 24)).alloc (.cells #[.bool false] 4)).alloc (.cells #[.iface tv xv] 27)).heap[w.heap.size]? = some (.cells #[.int .i64 m] 24 (0, 0)) :=
    (Below.heap_alloc _ _ _ (by simp; omega)).trans ((Below.heap_alloc _ _ _ (by simp)).trans (World.alloc_heap_new w _))
  have hF0 : (((w.alloc (.cells #[.int .i64 m] 24)).alloc (.cells #[.bool false] 4)).alloc (.cells #[.iface tv xv] 27)).heap[w.heap.size + 1]? = some (.cells #[.bool false] 4 (0, 0)) := by
    rw [Below.heap_alloc _ _ _ (by simp)]
    have := World.alloc_heap_new (w.alloc (.cells #[.int .i64 m] 24)) (.cells #[.bool false] 4)
    rwa [World.size_alloc] at this
  have hE0 : (((w.alloc (.cells #[.int .i64 m] 24)).alloc (.cells #[.bool false] 4)).alloc (.cells #[.iface tv xv] 27)).cell? ⟨w.heap.size + 1 + 1, 0, none⟩ = some (.iface tv xv) := by rw [cNew (by simp)]; rfl
  have hb0 : Below w.heap.size w (((w.alloc (.cells #[.int .i64 m] 24)).alloc (.cells #[.bool false] 4)).alloc (.cells #[.iface tv xv] 27)) := (((Below.refl _ w).alloc (Nat.le_refl _) _).alloc (by simp) _).alloc (by simp; omega) _
  have hs0 : (((w.alloc (.cells #[.int .i64 m] 24)).alloc (.cells #[.bool false] 4)).alloc (.cells #[.iface tv xv] 27)).heap.size = w.heap.size + 1 + 1 + 1 := by simp
  generalize ((w.alloc (.cells #[.int .i64 m] 24)).alloc (.cells #[.bool false] 4)).alloc (.cells #[.iface tv xv] 27) = W0 at hM0 hF0 hE0 hb0 hs0 ⊢
  refine range_law (α := Err) w.heap.size (gf := 36) (lb := #[.pointer (some ⟨w.heap.size + 1 + 1, 0, none⟩)]) (by simp [Act.eval]) enters36 (encs := fun x : Err => #[x.val]) (ok := (· <+: e.layers)) (S := (· = e.layers)) (fun _ => rfl) (by omega)
    (fun i => i = w.heap.size ∨ i = w.heap.size + 1) (fun i hi => by omega)
    (fun W1 hb1 hs1 => layers_iter e _ _ (w.heap.size + 1 + 1) w.heap.size _ W1 ((hb1.cell (p := ⟨w.heap.size + 1 + 1, 0, none⟩) (by simp; omega)).trans (by rw [hE0, hv])) ((he.below hb0 htop).below hb1 (by omega)) htop (by omega) (by rintro i ((h | h) | h | h) <;> omega) hd)
    (IsI (w.heap.size + 1) w.heap.size m) (IsX (w.heap.size + 1) m) (isI_stable _ _ _ _) (isX_stable _ _ _)
    ⟨⟨.inr rfl, hF0⟩, ⟨.inl rfl, hM0⟩, fun x h => by simp at h⟩ ?round ?done ?stop
  case round =>
    rintro l pre x O W ⟨⟨i1, i2⟩, ⟨i3, i4⟩, i5⟩ hO hok hsz hl hlt hwl
    obtain ⟨tx, vx, hx⟩ := x.val_iface
    rw [hx]
    gi_wp2
    refine ⟨fun k => O k ∨ k = W.heap.size, ⟨(Kept.refl O W).alloc _, fun k hk => ?_⟩, ?_⟩
    · rw [World.size_alloc]
      rcases hk with hk | hk
      · exact ⟨.inl hk, by have := hO k hk; omega⟩
      · exact ⟨.inr (by omega), by omega⟩
    intro W2 hs2 hb2 ho2 ht2 hu2
    have hBrl := hO _ i1
    have hBml := hO _ i3
    have e1 : W2.heap[W.heap.size]? = some (.cells #[.iface tx vx] 27 (0, 0)) := (hb2 _ (by omega)).trans (World.alloc_heap_new W _)
    have e2 : W2.heap[w.heap.size + 1]? = some (.cells #[.bool false] 4 (0, 0)) := (hb2 _ (fun h => hl (h ▸ i1))).trans ((Below.heap_alloc _ _ _ hBrl).trans i2)
    have e3 : W2.heap[w.heap.size]? = some (.cells #[.int .i64 m] 24 (0, 0)) := (hb2 _ (fun h => hl (h ▸ i3))).trans ((Below.heap_alloc _ _ _ hBml).trans i4)
    have hO2 : ∀ k, (O k ∨ k = W.heap.size) → k < W2.heap.size := fun k hk => by
      rw [hs2, World.size_alloc]
      rcases hk with hk | hk
      · have := hO k hk; omega
      · omega
    have l1 : W.heap.size < W2.heap.size := lt_of_block e1
    have l2 : w.heap.size + 1 < W2.heap.size := lt_of_block e2
    clear hs2 hb2 ho2 ht2 hu2
    have hmf : ∀ (fn : Fn) (first cap : Array Value) (w : World), (Instr.makeFunc fn first cap).run Tryd.prog w = .ok (.func fn first cap) w := fun _ _ _ _ => rfl
    have kd : Kept noBlock W2 (W2.alloc (.cells #[.bool false] 4)) := (Kept.refl _ W2).alloc _
    have hc1 := is1_any x W.heap.size w.heap.size m (W2.alloc (.cells #[.bool false] 4))
      ((kd.cell (p := ⟨W.heap.size, 0, none⟩) l1 (fun h => h)).trans (by rw [cell_of_block e1, hx]; rfl))
      ((kd.cell (p := ⟨w.heap.size, 0, none⟩) (by simp; omega) (fun h => h)).trans (by rw [cell_of_block e3]; rfl))
    have hcalm := calm_any 25 #[.pointer (some ⟨W.heap.size, 0, none⟩), .pointer (some ⟨w.heap.size, 0, none⟩)] W2
      (fun b w' => b = x.selfIs m ∧ Below (W2.heap.size + 1) (W2.alloc (.cells #[.bool false] 4)) w') enters25
      (hc1.mono (by
        rintro ev w' ⟨rfl, hk⟩
        rw [World.size_alloc] at hk
        exact ⟨_, rfl, ⟨(hk.cell (p := ⟨W2.heap.size, 0, none⟩) (by simp)).trans (by rw [cNew rfl]; rfl), (hk.frozen (p := ⟨W2.heap.size, 0, none⟩) (by simp)).trans (fNew rfl)⟩, rfl, hk⟩))
    clear hc1
    gi_wp2_with (fail)
    refine ⟨trivial, fun h => (by simp [Fence.wide] at h), (CallsIn.inRound l (callsW hcalm)).mono ?_⟩
    clear hcalm
    rintro ev Wf ⟨b, w2, rfl, ⟨rfl, hk2⟩, rfl⟩
    have kf : Kept noBlock W2 (w2.setCell ⟨W2.heap.size, 0, none⟩ (.bool (x.selfIs m))) :=
      (kd.trans (Kept.of_below hk2) (fun i hi h => by omega)).setCell (fun h => by have h' : W2.heap.size < W2.heap.size := h; omega) _
    generalize w2.setCell ⟨W2.heap.size, 0, none⟩ (.bool (x.selfIs m)) = Wf at kf ⊢
    have hsf := kf.size
    have f2 : Wf.heap[w.heap.size + 1]? = some (.cells #[.bool false] 4 (0, 0)) := (kf.block _ l2 (fun h => h)).trans e2
    have f3 : Wf.heap[w.heap.size]? = some (.cells #[.int .i64 m] 24 (0, 0)) := (kf.block _ (by omega) (fun h => h)).trans e3
    have hOf : ∀ k, (O k ∨ k = W.heap.size) → k < Wf.heap.size := fun k hk => by have := hO2 k hk; omega
    cases hself : x.selfIs m with
    | false =>
      gi_wp2_with (fail)
      refine ⟨_, ⟨kf.mono (fun _ _ h => h.elim), fun k hk => ⟨.inl hk, hOf k hk⟩⟩, ⟨.inl i1, f2⟩, ⟨.inl i3, f3⟩, fun y hy => ?_⟩
      rcases List.mem_append.1 hy with h | h
      · exact i5 y h
      · simp only [List.mem_singleton] at h
        subst h
        exact hself
    | true =>
      have c5 : Wf.cell? ⟨w.heap.size + 1, 0, none⟩ = some (.bool false) := cell_of_block f2 0
      have f5 : Wf.frozen? ⟨w.heap.size + 1, 0, none⟩ = false := frozen_of_block f2
      have HS := Lib.hid hself
      clear hself
      gi_wp2_with (fail)
      exact ⟨fun k => O k ∨ k = W.heap.size, ⟨(kf.mono (fun _ _ h => h.elim)).setCell (p := ⟨w.heap.size + 1, 0, none⟩) (fun _ => .inl i1) _, fun k hk => ⟨.inl hk, by rw [sSet]; exact hOf k hk⟩⟩, rfl, .inl i1, block_setCell f2, x, by simp, HS.out⟩
  case done =>
    rintro xs O' W rfl ⟨⟨h1, h2⟩, _, h4⟩ hE hnD hD
    have c1 : W.cell? ⟨w.heap.size + 1, 0, none⟩ = some (.bool false) := cell_of_block h2 0
    have f1 : W.frozen? ⟨w.heap.size + 1, 0, none⟩ = false := frozen_of_block h2
    have hcode := isNum_none h4
    gi_wp2_with (fail)
    have gB : (W.setCell ⟨w.heap.size + 1, 0, none⟩ (.bool false)).heap[w.heap.size + 1]? = some (.cells #[.bool false] 4 (0, 0)) := block_setCell h2
    have hD' : (W.setCell ⟨w.heap.size + 1, 0, none⟩ (.bool false)).heap[W0.heap.size]? = some (.deferred (some [])) := (Below.heap_setCell _ _ _ _ (by simp; omega)).trans hD
    have kf : Below w.heap.size w ((W.setCell ⟨w.heap.size + 1, 0, none⟩ (.bool false)).putObj W0.heap.size (.deferred none)) := by
      have k1 : Kept (fun i => w.heap.size ≤ i) w W := (Kept.of_below hb0).trans hE.kept (by intro i hi h; omega)
      exact ((k1.setCell (p := ⟨w.heap.size + 1, 0, none⟩) (fun _ => Nat.le_succ _) _).putObj (fun h => by omega) _).below (Nat.le_refl _) (fun k hk => by omega)
    exact leaves_mark1 hD' (res12 _ () (by rw [cell_of_block ((World.putObj_heap_other (by omega)).trans gB)]; rfl)) ⟨by rw [hcode]; rfl, kf⟩
  case stop =>
    rintro c pre O' W hok ⟨rfl, h2, h3, x, hx, hs⟩ hE hnD hD
    have hcode : e.isNum m = true := isNum_of (hok.subset hx) hs
    gi_wp2_with (fail)
    have kf : Below w.heap.size w (W.putObj W0.heap.size (.deferred none)) := by
      have k1 : Kept (fun i => w.heap.size ≤ i) w W := (Kept.of_below hb0).trans hE.kept (by intro i hi h; omega)
      exact (k1.putObj (fun h => by omega) _).below (Nat.le_refl _) (fun k hk => by omega)
    exact leaves_mark1 hD (res12 _ () (by rw [cell_of_block ((World.putObj_heap_other (by omega)).trans h3)]; rfl)) ⟨by rw [hcode]; rfl, kf⟩

set_option maxRecDepth 100000 in
set_option maxHeartbeats 4000000 in
theorem is_nil (m : Int) (w : World) : Calls Tryd.prog 12 #[.nilIface, .int .i64 m] w fun ev w' => ev = .returned (.bool false) ∧ Below w.heap.size w w' := by
  obtain ⟨n0, _⟩ : ∃ n0 : Nat, n0 = n0 := ⟨9, rfl⟩
  refine (callsIn_wide (n := n0)).1 ?_
  refine callsIn_of_wp_marks Tryd.func12 rfl trivial ?_ rfl
  simp only [Tryd.ntmps12, List.size_toArray, List.length_cons, List.length_nil, Nat.reduceAdd, Nat.reduceSub, Array.replicate_succ, Array.replicate_zero, List.push_toArray, List.append_toArray, List.nil_append, List.cons_append]
  gi_wp2_with (fail)
  refine ⟨trivial, fun h => (by simp [Fence.wide] at h), (callsW (layers_nil _)).mono ?_⟩
  rintro ev W0 ⟨rfl, rfl⟩
  gi_wp2_with (fail)
  have hM0 : (((w.alloc (.cells #[.int .i64 m] 24)).alloc (.cells #[.bool false] 4)).alloc (.cells #[.nilIface] 27)).heap[w.heap.size]? = some (.cells #[.int .i64 m] 24 (0, 0)) :=
    (Below.heap_alloc _ _ _ (by simp; omega)).trans ((Below.heap_alloc _ _ _ (by simp)).trans (World.alloc_heap_new w _))
  have hF0 : (((w.alloc (.cells #[.int .i64 m] 24)).alloc (.cells #[.bool false] 4)).alloc (.cells #[.nilIface] 27)).heap[w.heap.size + 1]? = some (.cells #[.bool false] 4 (0, 0)) := by
    rw [Below.heap_alloc _ _ _ (by simp)]
    have := World.alloc_heap_new (w.alloc (.cells #[.int .i64 m] 24)) (.cells #[.bool false] 4)
    rwa [World.size_alloc] at this
  have hE0 : (((w.alloc (.cells #[.int .i64 m] 24)).alloc (.cells #[.bool false] 4)).alloc (.cells #[.nilIface] 27)).cell? ⟨w.heap.size + 1 + 1, 0, none⟩ = some (.nilIface) := by rw [cNew (by simp)]; rfl
  have hb0 : Below w.heap.size w (((w.alloc (.cells #[.int .i64 m] 24)).alloc (.cells #[.bool false] 4)).alloc (.cells #[.nilIface] 27)) := (((Below.refl _ w).alloc (Nat.le_refl _) _).alloc (by simp) _).alloc (by simp; omega) _
  have hs0 : (((w.alloc (.cells #[.int .i64 m] 24)).alloc (.cells #[.bool false] 4)).alloc (.cells #[.nilIface] 27)).heap.size = w.heap.size + 1 + 1 + 1 := by simp
  generalize ((w.alloc (.cells #[.int .i64 m] 24)).alloc (.cells #[.bool false] 4)).alloc (.cells #[.nilIface] 27) = W0 at hM0 hF0 hE0 hb0 hs0 ⊢
  refine range_law (α := Err) w.heap.size (gf := 36) (lb := #[.pointer (some ⟨w.heap.size + 1 + 1, 0, none⟩)]) (by simp [Act.eval]) enters36 (encs := fun x : Err => #[x.val]) (ok := fun _ => False) (S := (· = [])) (fun _ => rfl) (by omega)
    (fun i => i = w.heap.size ∨ i = w.heap.size + 1) (fun i hi => by omega)
    (fun W1 hb1 hs1 => layers_iter_nil _ _ _ (w.heap.size + 1 + 1) _ W1 (by omega) ((hb1.cell (p := ⟨w.heap.size + 1 + 1, 0, none⟩) (by simp; omega)).trans hE0))
    (IsI (w.heap.size + 1) w.heap.size m) (IsX (w.heap.size + 1) m) (isI_stable _ _ _ _) (isX_stable _ _ _)
    ⟨⟨.inr rfl, hF0⟩, ⟨.inl rfl, hM0⟩, fun x h => by simp at h⟩ (fun _ _ _ _ _ _ _ h _ _ _ _ => h.elim) ?done (fun _ _ _ _ h _ _ _ _ => h.elim)
  case done =>
    rintro xs O' W rfl ⟨⟨h1, h2⟩, _, _⟩ hE hnD hD
    have c1 : W.cell? ⟨w.heap.size + 1, 0, none⟩ = some (.bool false) := cell_of_block h2 0
    have f1 : W.frozen? ⟨w.heap.size + 1, 0, none⟩ = false := frozen_of_block h2
    gi_wp2_with (fail)
    have gB : (W.setCell ⟨w.heap.size + 1, 0, none⟩ (.bool false)).heap[w.heap.size + 1]? = some (.cells #[.bool false] 4 (0, 0)) := block_setCell h2
    have hD' : (W.setCell ⟨w.heap.size + 1, 0, none⟩ (.bool false)).heap[W0.heap.size]? = some (.deferred (some [])) := (Below.heap_setCell _ _ _ _ (by simp; omega)).trans hD
    have kf : Below w.heap.size w ((W.setCell ⟨w.heap.size + 1, 0, none⟩ (.bool false)).putObj W0.heap.size (.deferred none)) := by
      have k1 : Kept (fun i => w.heap.size ≤ i) w W := (Kept.of_below hb0).trans hE.kept (by intro i hi h; omega)
      exact ((k1.setCell (p := ⟨w.heap.size + 1, 0, none⟩) (fun _ => Nat.le_succ _) _).putObj (fun h => by omega) _).below (Nat.le_refl _) (fun k hk => by omega)
    exact leaves_mark1 hD' (res12 _ () (by rw [cell_of_block ((World.putObj_heap_other (by omega)).trans gB)]; rfl)) ⟨rfl, kf⟩
end Go.Proofs.YtoobblofblodnaaDoor
