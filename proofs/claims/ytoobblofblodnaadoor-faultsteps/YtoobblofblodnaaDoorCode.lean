/-
  Code(err): the number that err is, or wraps; ErrOther, if there is none; OK of none.
-/
import Derived.Test.YtoobblofblodnaaDoorAsk
import Derived.Test.YtoobblofblodnaaDoorSteps
namespace Go.Proofs.YtoobblofblodnaaDoor
open Go.RowKit Go.Shelf
attribute [local go_sem] Oper.semAt_some

theorem code_of_num : ∀ {e : Err} {n : Int}, Err.num n ∈ e.layers → e.code = n
  | .num m, n, h => by simp [Err.layers] at h; simp [Err.code, h]
  | .text _, n, h => by simp [Err.layers] at h
  | .step _ _ _ e, n, h => by simp [Err.layers] at h; exact code_of_num (e := e) h
  | .other e, n, h => by simp [Err.layers] at h; exact code_of_num (e := e) h
theorem code_of_none : ∀ {e : Err}, (∀ n, Err.num n ∉ e.layers) → e.code = 9
  | .num m, h => absurd (by simp [Err.layers]) (h m)
  | .text _, _ => rfl
  | .step _ _ _ e, h => code_of_none (e := e) (fun n hn => h n (by simp [Err.layers, hn]))
  | .other e, h => code_of_none (e := e) (fun n hn => h n (by simp [Err.layers, hn]))

theorem res10 {b : Addr} {v u0 u1 u3 u4 u5 u6 u7 u8 u9 u10 u11 u12 : Value} (W : World) (_ : Unit) (h : W.cell? b = some v) :
    (results Tryd.f10 #[u0, u1, .pointer (some b), u3, u4, u5, u6, u7, u8, u9, u10, u11, u12]).run Tryd.prog W = .ok v W := by
  simp [results, Tryd.results10, go_sem, h]

theorem code_nil (w : World) : Calls Tryd.prog 10 #[.nilIface] w fun e w' => e = .returned (.int .i64 0) ∧ Below w.heap.size w w' := by
  obtain ⟨n0, _⟩ : ∃ n0 : Nat, n0 = n0 := ⟨9, rfl⟩
  have q := nilEqN
  refine (callsIn_wide (n := n0)).1 ?_
  refine callsIn_of_wp_marks Tryd.func10 rfl trivial ?_ rfl
  simp only [Tryd.ntmps10, List.size_toArray, List.length_cons, List.length_nil, Nat.reduceAdd, Nat.reduceSub, Array.replicate_succ, Array.replicate_zero, List.push_toArray, List.append_toArray, List.nil_append, List.cons_append]
  gi_wp2_with (fail)
  exact ⟨.int .i64 0, res10 _ () (by rw [cNew rfl]; rfl), rfl, (Below.refl _ w).alloc (Nat.le_refl _) _⟩

/-- What Code keeps: its result's box; no number has been met. -/
def CodeI (Br : Nat) (l : List Err) (O : Blocks) (W : World) : Prop := Laid W ∧ O Br ∧ W.heap[Br]? = some (.cells #[.int .i64 0] 24 (0, 0)) ∧ ∀ n, Err.num n ∉ l
def CodeX (Br : Nat) (c : Code) (l : List Err) (O : Blocks) (W : World) : Prop := c = .ret ∧ O Br ∧ ∃ n, W.heap[Br]? = some (.cells #[.int .i64 n] 24 (0, 0)) ∧ Err.num n ∈ l

set_option maxRecDepth 100000 in
set_option maxHeartbeats 4000000 in
theorem code_any (e : Err) (w : World) (hg : Laid w) (he : e.In w) (hd : e.depth ≤ 900) : Calls Tryd.prog 10 #[e.val] w fun ev w' => ev = .returned (.int .i64 e.code) ∧ Below w.heap.size w w' := by
  obtain ⟨tv, xv, hv⟩ := e.val_iface
  have htop := he.top_le
  have h0l : 0 < w.heap.size := lt_of_cell hg
  obtain ⟨n0, _⟩ : ∃ n0 : Nat, n0 = n0 := ⟨9, rfl⟩
  have q := nilEq tv xv
  rw [hv]
  refine (callsIn_wide (n := n0)).1 ?_
  refine callsIn_of_wp_marks Tryd.func10 rfl trivial ?_ rfl
  simp only [Tryd.ntmps10, List.size_toArray, List.length_cons, List.length_nil, Nat.reduceAdd, Nat.reduceSub, Array.replicate_succ, Array.replicate_zero, List.push_toArray, List.append_toArray, List.nil_append, List.cons_append]
  gi_wp2_with (fail)
  refine ⟨trivial, fun h => (by simp [Fence.wide] at h), (callsW (layers_any tv xv _)).mono ?_⟩
  rintro ev W0 ⟨rfl, rfl⟩
  gi_wp2_with (fail)
  have hF0 : ((w.alloc (.cells #[.int .i64 0] 24)).alloc (.cells #[.iface tv xv] 27)).heap[w.heap.size]? = some (.cells #[.int .i64 0] 24 (0, 0)) :=
    (Below.heap_alloc _ _ _ (by simp)).trans (World.alloc_heap_new w _)
  have hE0 : ((w.alloc (.cells #[.int .i64 0] 24)).alloc (.cells #[.iface tv xv] 27)).cell? ⟨w.heap.size + 1, 0, none⟩ = some (.iface tv xv) := by rw [cNew (by simp)]; rfl
  have hb0 : Below w.heap.size w ((w.alloc (.cells #[.int .i64 0] 24)).alloc (.cells #[.iface tv xv] 27)) := ((Below.refl _ w).alloc (Nat.le_refl _) _).alloc (by simp) _
  have hs0 : ((w.alloc (.cells #[.int .i64 0] 24)).alloc (.cells #[.iface tv xv] 27)).heap.size = w.heap.size + 1 + 1 := by simp
  generalize (w.alloc (.cells #[.int .i64 0] 24)).alloc (.cells #[.iface tv xv] 27) = W0 at hF0 hE0 hb0 hs0 ⊢
  have stI : Stable w.heap.size (CodeI w.heap.size) := by
    rintro s O W W' ⟨h1, h2, h3, h4⟩ _ hk
    exact ⟨(World.cell?_of_block (w := W) (a := ⟨0, 0, none⟩) (hk 0 (.inr h0l))).trans h1, h2, (hk _ (.inl h2)).trans h3, h4⟩
  have stX : ∀ c, Stable w.heap.size (CodeX w.heap.size c) := by
    rintro c s O W W' ⟨h1, h2, n, h3, h4⟩ _ hk
    exact ⟨h1, h2, n, (hk _ (.inl h2)).trans h3, h4⟩
  refine range_law (α := Err) w.heap.size (gf := 36) (lb := #[.pointer (some ⟨w.heap.size + 1, 0, none⟩)]) (by simp [Act.eval]) enters36 (encs := fun x : Err => #[x.val]) (ok := (· <+: e.layers)) (S := (· = e.layers)) (fun _ => rfl) (by omega)
    (fun i => i = w.heap.size) (fun i hi => by omega)
    (fun W1 hb1 hs1 => layers_iter e _ _ (w.heap.size + 1) w.heap.size _ W1 ((hb1.cell (p := ⟨w.heap.size + 1, 0, none⟩) (by simp; omega)).trans (by rw [hE0, hv])) ((he.below hb0 htop).below hb1 (by omega)) htop (by omega) (by rintro i (h | h | h) <;> omega) hd)
    (CodeI w.heap.size) (CodeX w.heap.size) stI stX
    ⟨(hb0.cell (p := ⟨0, 0, none⟩) h0l).trans hg, rfl, hF0, fun n h => by simp at h⟩ ?round ?done ?stop
  case round =>
    rintro l pre x O W ⟨i1, i2, i3, i4⟩ hO hok hsz hl hlt hwl
    obtain ⟨tx, vx, hx⟩ := x.val_iface
    rw [hx]
    gi_wp2
    refine ⟨fun k => O k ∨ k = W.heap.size, ⟨(Kept.refl O W).alloc _, fun k hk => ?_⟩, ?_⟩
    · rw [World.size_alloc]
      rcases hk with hk | hk
      · exact ⟨.inl hk, by have := hO k hk; omega⟩
      · exact ⟨.inr (by omega), by omega⟩
    intro W2 hs2 hb2 ho2 ht2 hu2
    have hBrl := hO _ i2
    have e1 : W2.heap[W.heap.size]? = some (.cells #[.iface tx vx] 27 (0, 0)) := (hb2 _ (by omega)).trans (World.alloc_heap_new W _)
    have e2 : W2.heap[w.heap.size]? = some (.cells #[.int .i64 0] 24 (0, 0)) := (hb2 _ (fun h => hl (h ▸ i2))).trans ((Below.heap_alloc _ _ _ hBrl).trans i3)
    have e3 : Laid W2 := (World.cell?_of_block (w := W.alloc (.cells #[.iface tx vx] 27)) (a := ⟨0, 0, none⟩) (hb2 0 (by omega))).trans ((cOld (by omega)).trans i1)
    have hO2 : ∀ k, (O k ∨ k = W.heap.size) → k < W2.heap.size := fun k hk => by
      rw [hs2, World.size_alloc]
      rcases hk with hk | hk
      · have := hO k hk; omega
      · omega
    have l1 : W.heap.size < W2.heap.size := lt_of_block e1
    have l2 : w.heap.size < W2.heap.size := lt_of_block e2
    clear hs2 hb2 ho2 ht2 hu2
    have hmf : ∀ (fn : Fn) (first cap : Array Value) (w : World), (Instr.makeFunc fn first cap).run Tryd.prog w = .ok (.func fn first cap) w := fun _ _ _ _ => rfl
    have kd : Kept noBlock W2 ((W2.alloc (.cells #[.int .i64 0] 24)).alloc (.cells #[.bool false] 4)) := ((Kept.refl _ W2).alloc _).alloc _
    have hsd : ((W2.alloc (.cells #[.int .i64 0] 24)).alloc (.cells #[.bool false] 4)).heap.size = W2.heap.size + 1 + 1 := by simp
    have hc1 := code1_any x W.heap.size W2.heap.size (.int .i64 0) ((W2.alloc (.cells #[.int .i64 0] 24)).alloc (.cells #[.bool false] 4))
      ((kd.cell (p := ⟨0, 0, none⟩) (by simp; omega) (fun h => h)).trans e3)
      ((kd.cell (p := ⟨W.heap.size, 0, none⟩) l1 (fun h => h)).trans (by rw [cell_of_block e1, hx]; rfl))
      ((cOld (by simp)).trans (by rw [cNew rfl]; rfl)) ((fOld (by simp)).trans (fNew rfl))
    have hcalm := calm_any 22 #[.pointer (some ⟨W.heap.size, 0, none⟩), .pointer (some ⟨W2.heap.size, 0, none⟩)] (W2.alloc (.cells #[.int .i64 0] 24))
      (fun b w' => b = x.self.isSome ∧ Kept (fun k => k = W2.heap.size) ((W2.alloc (.cells #[.int .i64 0] 24)).alloc (.cells #[.bool false] 4)) w' ∧ ∀ n, x.self = some n → w'.cell? ⟨W2.heap.size, 0, none⟩ = some (.int .i64 n)) enters22
      (hc1.mono (by
        rintro ev w' ⟨hk, rfl, hn⟩
        have h1 : (W2.alloc (.cells #[.int .i64 0] 24)).heap.size = W2.heap.size + 1 := by simp
        refine ⟨_, rfl, ⟨(hk.cell (p := ⟨(W2.alloc (.cells #[.int .i64 0] 24)).heap.size, 0, none⟩) (by simp) (by simp)).trans (by rw [cNew rfl]; rfl), (hk.frozen (p := ⟨(W2.alloc (.cells #[.int .i64 0] 24)).heap.size, 0, none⟩) (by simp) (by simp)).trans (fNew rfl)⟩, rfl, hk, hn⟩))
    clear hc1
    gi_wp2_with (fail)
    refine ⟨trivial, fun h => (by simp [Fence.wide] at h), (CallsIn.inRound l (callsW hcalm)).mono ?_⟩
    clear hcalm
    rintro ev Wf ⟨b, w2, rfl, ⟨rfl, hk2, hn2⟩, rfl⟩
    have h1 : (W2.alloc (.cells #[.int .i64 0] 24)).heap.size = W2.heap.size + 1 := by simp
    have kf : Kept noBlock W2 (w2.setCell ⟨(W2.alloc (.cells #[.int .i64 0] 24)).heap.size, 0, none⟩ (.bool x.self.isSome)) :=
      (kd.trans hk2 (fun i hi h => by omega)).setCell (fun h => by rw [h1] at h; have h' : W2.heap.size + 1 < W2.heap.size := h; omega) _
    have cn : ∀ n, x.self = some n → (w2.setCell ⟨(W2.alloc (.cells #[.int .i64 0] 24)).heap.size, 0, none⟩ (.bool x.self.isSome)).cell? ⟨W2.heap.size, 0, none⟩ = some (.int .i64 n) := fun n hn => (cFar (by simp)).trans (hn2 n hn)
    generalize w2.setCell ⟨(W2.alloc (.cells #[.int .i64 0] 24)).heap.size, 0, none⟩ (.bool x.self.isSome) = Wf at kf cn ⊢
    have hsf := kf.size
    have f2 : Wf.heap[w.heap.size]? = some (.cells #[.int .i64 0] 24 (0, 0)) := (kf.block _ l2 (fun h => h)).trans e2
    have f3 : Laid Wf := (kf.cell (p := ⟨0, 0, none⟩) (by simp; omega) (fun h => h)).trans e3
    have hOf : ∀ k, (O k ∨ k = W.heap.size) → k < Wf.heap.size := fun k hk => by have := hO2 k hk; omega
    cases hself : x.self with
    | none =>
      simp only [Option.isSome_none]
      gi_wp2_with (fail)
      refine ⟨_, ⟨kf.mono (fun _ _ h => h.elim), fun k hk => ⟨.inl hk, hOf k hk⟩⟩, f3, .inl i2, f2, fun n hn => ?_⟩
      rcases List.mem_append.1 hn with h | h
      · exact i4 n h
      · simp only [List.mem_singleton] at h
        subst h
        simp [Err.self] at hself
    | some n =>
      have hxn : x = .num n := by
        cases x <;> simp [Err.self] at hself
        rw [hself]
      have c4 := cn n hself
      have c5 : Wf.cell? ⟨w.heap.size, 0, none⟩ = some (.int .i64 0) := cell_of_block f2 0
      have f5 : Wf.frozen? ⟨w.heap.size, 0, none⟩ = false := frozen_of_block f2
      simp only [Option.isSome_some]
      clear cn
      gi_wp2_with (fail)
      refine ⟨fun k => O k ∨ k = W.heap.size, ⟨(kf.mono (fun _ _ h => h.elim)).setCell (p := ⟨w.heap.size, 0, none⟩) (fun _ => .inl i2) _, fun k hk => ⟨.inl hk, by rw [sSet]; exact hOf k hk⟩⟩, rfl, .inl i2, n, block_setCell f2, ?_⟩
      rw [hxn]
      simp
  case done =>
    rintro xs O' W rfl ⟨h1, h2, h3, h4⟩ hE hnD hD
    have c1 : W.cell? ⟨w.heap.size, 0, none⟩ = some (.int .i64 0) := cell_of_block h3 0
    have f1 : W.frozen? ⟨w.heap.size, 0, none⟩ = false := frozen_of_block h3
    have hcode := code_of_none h4
    gi_wp2_with (fail)
    have gB : (W.setCell ⟨w.heap.size, 0, none⟩ (.int .i64 9)).heap[w.heap.size]? = some (.cells #[.int .i64 9] 24 (0, 0)) := block_setCell h3
    have hD' : (W.setCell ⟨w.heap.size, 0, none⟩ (.int .i64 9)).heap[W0.heap.size]? = some (.deferred (some [])) := (Below.heap_setCell _ _ _ _ (by simp; omega)).trans hD
    have kf : Below w.heap.size w ((W.setCell ⟨w.heap.size, 0, none⟩ (.int .i64 9)).putObj W0.heap.size (.deferred none)) := by
      have k1 : Kept (fun i => w.heap.size ≤ i) w W := (Kept.of_below hb0).trans hE.kept (by intro i hi h; omega)
      exact ((k1.setCell (p := ⟨w.heap.size, 0, none⟩) (fun _ => Nat.le_refl _) _).putObj (fun h => by omega) _).below (Nat.le_refl _) (fun k hk => by omega)
    exact leaves_mark1 hD' (res10 _ () (by rw [cell_of_block ((World.putObj_heap_other (by omega)).trans gB)]; rfl)) ⟨by rw [hcode]; rfl, kf⟩
  case stop =>
    rintro c pre O' W hok ⟨rfl, h2, n, h3, h4⟩ hE hnD hD
    have hcode : e.code = n := code_of_num (hok.subset h4)
    gi_wp2_with (fail)
    have kf : Below w.heap.size w (W.putObj W0.heap.size (.deferred none)) := by
      have k1 : Kept (fun i => w.heap.size ≤ i) w W := (Kept.of_below hb0).trans hE.kept (by intro i hi h; omega)
      exact (k1.putObj (fun h => by omega) _).below (Nat.le_refl _) (fun k hk => by omega)
    exact leaves_mark1 hD (res10 _ () (by rw [cell_of_block ((World.putObj_heap_other (by omega)).trans h3)]; rfl)) ⟨by rw [hcode]; rfl, kf⟩
end Go.Proofs.YtoobblofblodnaaDoor
