/-
  newGate and its function: a Step is let in once; what others wrap is counted.
  inner(e): what e wraps.
-/
import Derived.Shelf.Abstract
import Derived.Test.YtehmkkccnadhoaaDoorPN07
import Derived.Test.YtehmkkccnadhoaaDoorPN08
import Derived.Test.YtehmkkccnadhoaaDoorPN09
namespace Go.Proofs.YtehmkkccnadhoaaDoor.Fl
open Go.RowKit Go.Extern.Stop Go.Stop Go.Extern Go.Shelf

theorem newGate_any (w : World) : Calls Tryd.prog 45 #[] w fun e w' => e = .returned (.func (.func 65) #[] #[.pointer (some ⟨w.heap.size + 1, 0, none⟩), .pointer (some ⟨w.heap.size + 1 + 1, 0, none⟩)]) ∧
    w' = ((w.alloc (.map #[] 0)).alloc (.cells #[.map (some w.heap.size)] 129)).alloc (.cells #[.int .i64 0] 3) := by
  have hmf : ∀ (fn : Fn) (first cap : Array Value) (w : World), (Instr.makeFunc fn first cap).run Tryd.prog w = .ok (.func fn first cap) w := fun _ _ _ _ => rfl
  have hmm := @run_makeMap Tryd.prog
  go_enter Tryd.func45, Tryd.ntmps45
  go_wp2
  go_ret
  exact ⟨rfl, rfl⟩

/-- The keys of a map: Steps at these blocks. -/
def KeysAt (w : World) (es : List MapEntry) (bs : List Nat) : Prop := es.map (·.key) = bs.map (fun b => Value.pointer (some ⟨b, 0, none⟩)) ∧ ∀ b ∈ bs, ∃ c t, w.heap[b]? = some (.cells c t (0, 0))

theorem eqStep_other {a b : Nat} (w : World) (hne : a ≠ b) {ca cb : Array Value} {ta tb : TypeId} (ha : w.heap[a]? = some (.cells ca ta (0, 0))) (hb : w.heap[b]? = some (.cells cb tb (0, 0))) :
    (Op.equal 88 (.pointer (some ⟨a, 0, none⟩)) (.pointer (some ⟨b, 0, none⟩))).run Tryd.prog w = .ok false w := by
  obtain ⟨j, hj, hz⟩ : ∃ j, Tryd.prog.info? 90 = some j ∧ j.size ≠ 0 := by
    have h : (Tryd.prog.info? 90).map (·.size) = some 3 := by kernel_rfl
    obtain ⟨j, hj, hz⟩ := Option.map_eq_some_iff.1 h
    exact ⟨j, hj, by rw [hz]; decide⟩
  have h : ∀ d : Nat, (Op.equalIn (d + 1) 88 (.pointer (some ⟨a, 0, none⟩)) (.pointer (some ⟨b, 0, none⟩))).run Tryd.prog w = .ok false w := fun d => by
    simp [Op.equalIn, run_underlying Tryd.underlying88, sizeOf, typeInfo, hj, hz, run_sameAddr_other w (a := ⟨a, 0, none⟩) (b := ⟨b, 0, none⟩) (fun e => hne (by cases e; rfl)) ha hb]
  simp [Op.equal, Op.maxDepth, h 9999]

theorem findAsking_none {b : Nat} {c : Array Value} {t : TypeId} (w : World) (hb : w.heap[b]? = some (.cells c t (0, 0))) : ∀ (es : List MapEntry) (bs : List Nat) (i : Nat), KeysAt w es bs → b ∉ bs →
    (Instr.findAsking 88 (.pointer (some ⟨b, 0, none⟩)) es i).run Tryd.prog w = .ok none w
  | [], _, _, _, _ => rfl
  | e :: es, [], _, h, _ => by simp [KeysAt] at h
  | e :: es, k :: bs, i, h, hn => by
    obtain ⟨h1, h2⟩ := h
    simp only [List.map_cons, List.cons.injEq] at h1
    obtain ⟨ck, tk, hk⟩ := h2 k (by simp)
    have ih := findAsking_none w hb es bs (i + 1) ⟨h1.2, fun x hx => h2 x (by simp [hx])⟩ (fun hx => hn (by simp [hx]))
    simp only [Instr.findAsking, h1.1, Sem.run_bind, eqStep_other w (fun e => hn (by simp [e])) hb hk, Result.andThen]
    exact ih

theorem findKey_none {b : Nat} {c : Array Value} {t : TypeId} (w : World) (hb : w.heap[b]? = some (.cells c t (0, 0))) (es : List MapEntry) (bs : List Nat) (h : KeysAt w es bs) (hn : b ∉ bs) :
    (Instr.findKey 88 (.pointer (some ⟨b, 0, none⟩)) es).run Tryd.prog w = .ok none w := by
  cases es with
  | nil => simp [Instr.findKey, run_underlying Tryd.underlying88, Instr.findNow]
  | cons e es =>
    have hf := findAsking_none w hb (e :: es) bs 0 h hn
    simp only [Instr.findKey, Sem.run_bind, run_underlying Tryd.underlying88, Result.andThen]
    have hk : Instr.findNow (.pointer 90) (.pointer (some ⟨b, 0, none⟩)) (e :: es) 0 = none := by simp [Instr.findNow, Instr.sameNow]
    rw [hk]
    exact hf

theorem checkStep (e : Bool) (b : Nat) (w : World) (d : Nat) : (Instr.checkKey e (d + 1) 88 (.pointer (some ⟨b, 0, none⟩))).run Tryd.prog w = .ok () w := by
  simp [Instr.checkKey, run_underlying Tryd.underlying88]

theorem lookup_none {b M : Nat} {c : Array Value} {t : TypeId} {es : Array MapEntry} {clock : Nat} (w : World) (hM : w.heap[M]? = some (.map es clock)) (hb : w.heap[b]? = some (.cells c t (0, 0))) (bs : List Nat) (h : KeysAt w es.toList bs) (hn : b ∉ bs) :
    (Instr.lookup 129 (.map (some M)) (.pointer (some ⟨b, 0, none⟩)) true).run Tryd.prog w = .ok (.tuple #[.agg #[], .bool false]) w := by
  have hf := findKey_none w hb es.toList bs h hn
  have hc : (Instr.checkKey es.isEmpty 10000 88 (.pointer (some ⟨b, 0, none⟩))).run Tryd.prog w = .ok () w := checkStep _ _ _ 9999
  have hz : (zeroValue 130).run Tryd.prog w = .ok (.agg #[]) w := by kernel_rfl
  have hg : (getObj M).run Tryd.prog w = .ok (.map es clock) w := by simp [getObj, Sem.run, hM]
  simp [Instr.lookup, run_underlying Tryd.underlying129, hg, hc, hf, hz, Result.andThen, Sem.run_bind]

theorem update_new {b M : Nat} {c : Array Value} {t : TypeId} {es : Array MapEntry} {clock : Nat} (w : World) (hM : w.heap[M]? = some (.map es clock)) (hb : w.heap[b]? = some (.cells c t (0, 0))) (bs : List Nat) (h : KeysAt w es.toList bs) (hn : b ∉ bs) :
    (Instr.mapUpdate 129 (.map (some M)) (.pointer (some ⟨b, 0, none⟩)) (.agg #[])).run Tryd.prog w = .ok () (w.putObj M (.map (es.push { key := .pointer (some ⟨b, 0, none⟩), val := .agg #[], born := clock }) (clock + 1))) := by
  have hf := findKey_none w hb es.toList bs h hn
  have hc : (Instr.checkKey false 10000 88 (.pointer (some ⟨b, 0, none⟩))).run Tryd.prog w = .ok () w := checkStep _ _ _ 9999
  have hg : (getObj M).run Tryd.prog w = .ok (.map es clock) w := by simp [getObj, Sem.run, hM]
  have hs : ∀ o, (setObj M o).run Tryd.prog w = .ok () (w.putObj M o) := fun o => by simp [setObj, Sem.run, hM, World.putObj]
  simp [Instr.mapUpdate, run_underlying Tryd.underlying129, hg, hc, hf, hs, Result.andThen, Sem.run_bind]

theorem gate_24 (x : Value) (pm pf : Value) (w : World) : Calls Tryd.prog 65 #[.iface 39 x, pm, pf] w fun e w' => e = .returned (.bool true) ∧ w = w' := by
  have q1 := tA24_40
  have q2 := tA24_89
  have q3 := tA24_91
  go_enter Tryd.func65, Tryd.ntmps65
  go_wp2
  go_ret
  exact ⟨rfl, rfl⟩

theorem gate_step (b Mb M Fb : Nat) (c : Array Value) (t : TypeId) (es : Array MapEntry) (clock : Nat) (bs : List Nat) (w : World) (hMb : w.cell? ⟨Mb, 0, none⟩ = some (.map (some M))) (hM : w.heap[M]? = some (.map es clock)) (hb : w.heap[b]? = some (.cells c t (0, 0)))
    (h : KeysAt w es.toList bs) (hn : b ∉ bs) :
    Calls Tryd.prog 65 #[.iface 88 (.pointer (some ⟨b, 0, none⟩)), .pointer (some ⟨Mb, 0, none⟩), .pointer (some ⟨Fb, 0, none⟩)] w fun e w' => e = .returned (.bool true) ∧
      w' = (w.alloc (.cells #[] 130)).putObj M (.map (es.push { key := .pointer (some ⟨b, 0, none⟩), val := .agg #[], born := clock }) (clock + 1)) := by
  have q1 := tA40_40
  have hMl : M < w.heap.size := lt_of_block hM
  have hbl : b < w.heap.size := lt_of_block hb
  have hMbl : Mb < w.heap.size := lt_of_cell hMb
  have hl := lookup_none w hM hb bs h hn
  have hMb1 : (w.alloc (.cells #[] 130)).cell? ⟨Mb, 0, none⟩ = some (.map (some M)) := (cOld hMbl).trans hMb
  have hu := update_new (w.alloc (.cells #[] 130)) ((Below.heap_alloc w _ M hMl).trans hM) ((Below.heap_alloc w _ b hbl).trans hb) bs ⟨h.1, fun k hk => by
    obtain ⟨c', t', h'⟩ := h.2 k hk
    exact ⟨c', t', (Below.heap_alloc w _ k (lt_of_block h')).trans h'⟩⟩ hn
  go_enter Tryd.func65, Tryd.ntmps65
  go_wp2
  go_ret
  exact ⟨rfl, rfl⟩

theorem layers_any (T : TypeId) (x : Value) (w : World) : Calls Tryd.prog 26 #[.iface T x] w fun e w' => e = .returned (.func (.func 44) #[] #[.pointer (some ⟨w.heap.size, 0, none⟩)]) ∧ w' = w.alloc (.cells #[.iface T x] 48) := by
  have hmf : ∀ (fn : Fn) (first cap : Array Value) (w : World), (Instr.makeFunc fn first cap).run Tryd.prog w = .ok (.func fn first cap) w := fun _ _ _ _ => rfl
  go_enter Tryd.func26, Tryd.ntmps26
  go_wp2
  go_ret
  exact ⟨rfl, rfl⟩

theorem backward_any (A : Option Addr) (n c : Nat) (w : World) : Calls Tryd.prog 46 #[.slice A n c] w fun e w' => e = .returned (.func (.func 66) #[] #[.pointer (some ⟨w.heap.size, 0, none⟩)]) ∧ w' = w.alloc (.cells #[.slice A n c] 93) := by
  have hmf : ∀ (fn : Fn) (first cap : Array Value) (w : World), (Instr.makeFunc fn first cap).run Tryd.prog w = .ok (.func fn first cap) w := fun _ _ _ _ => rfl
  go_enter Tryd.func46, Tryd.ntmps46
  go_wp2
  go_ret
  exact ⟨rfl, rfl⟩

theorem enters46 (args : Array Value) (w : World) : (callFunc 66 args).run Tryd.prog w = .ok (.enter 66 args) w := enters_of Tryd.func66 (by kernel_rfl) rfl args w
theorem enters36 (args : Array Value) (w : World) : (callFunc 44 args).run Tryd.prog w = .ok (.enter 44 args) w := enters_of Tryd.func44 (by kernel_rfl) rfl args w
end Go.Proofs.YtehmkkccnadhoaaDoor.Fl
namespace Go.Proofs.YtehmkkccnadhoaaDoor.Fl
open Go.RowKit Go.Extern.Stop Go.Stop Go.Extern Go.Shelf

theorem methodUnwrap40 (v : Value) (w : World) : (Go.method 283 88 v "Unwrap").run Tryd.prog w = .ok (98, v) w := by kernel_rfl
theorem inner1_step (b Be Bf : Nat) (T : TypeId) (y old : Value) (w : World) (hb : w.cell? ⟨b, 2, none⟩ = some (.iface T y)) (he : w.cell? ⟨Be, 0, none⟩ = some (.iface 88 (.pointer (some ⟨b, 0, none⟩))))
    (hf : w.cell? ⟨Bf, 0, none⟩ = some old) (hz : w.frozen? ⟨Bf, 0, none⟩ = false) :
    Calls Tryd.prog 67 #[.pointer (some ⟨Be, 0, none⟩), .pointer (some ⟨Bf, 0, none⟩)] w fun e w' => e = .returned (.bool true) ∧ w' = (w.setCell ⟨Bf, 0, none⟩ (.slice (some ⟨w.heap.size, 0, none⟩) 1 1)).alloc (.cells #[.iface T y] 48) := by
  have q := tA40_89
  have m := methodUnwrap40
  have hfl : Bf < w.heap.size := lt_of_cell hf
  have hf1 : (w.alloc (.cells #[.iface T y] 48)).cell? ⟨Bf, 0, none⟩ = some old := (World.cell?_alloc_lt _ _ ⟨Bf, 0, none⟩ hfl).trans hf
  have hz1 : (w.alloc (.cells #[.iface T y] 48)).frozen? ⟨Bf, 0, none⟩ = false := (World.frozen?_alloc_old _ _ ⟨Bf, 0, none⟩ (Nat.ne_of_lt hfl)).trans hz
  go_enter Tryd.func67, Tryd.ntmps67
  go_wp2_with (go_at_call 98; refine (stepUnwrap b (.iface T y) _ hb).mono ?_; rintro e w' ⟨rfl, rfl⟩)
  go_ret
  exact ⟨rfl, rfl⟩

theorem inner1_leaf24 (Be Bf : Nat) (x : Value) (w : World) (he : w.cell? ⟨Be, 0, none⟩ = some (.iface 39 x)) :
    Calls Tryd.prog 67 #[.pointer (some ⟨Be, 0, none⟩), .pointer (some ⟨Bf, 0, none⟩)] w fun e w' => e = .returned (.bool true) ∧ w = w' := by
  have q := tA24_89
  have q2 := tA24_91
  go_enter Tryd.func67, Tryd.ntmps67
  go_wp2
  go_ret
  exact ⟨rfl, rfl⟩

theorem enters47 (args : Array Value) (w : World) : (callFunc 67 args).run Tryd.prog w = .ok (.enter 67 args) w := enters_of Tryd.func67 (by kernel_rfl) rfl args w

/-- What inner answers of an error that wraps x. -/
def Gives (w : World) (x : Value) (e : Ending) (w' : World) : Prop := ∃ A, e = .returned (.slice (some ⟨A, 0, none⟩) 1 1) ∧ w.heap.size ≤ A ∧ A < w'.heap.size ∧ w'.cell? ⟨A, 0, none⟩ = some x ∧ Below w.heap.size w w'

/-- The world in which inner's closure is called. -/
def inW (v : Value) (w : World) : World := ((w.alloc (.cells #[v] 48)).alloc (.cells #[.slice none 0 0] 93)).alloc (.cells #[.bool false] 4)
theorem inW_below (v : Value) (w : World) : Below w.heap.size w (inW v w) :=
  (((Below.refl _ w).alloc (Nat.le_refl _) _).alloc (by simp) _).alloc (by simp; omega) _
theorem inW_size (v : Value) (w : World) : (inW v w).heap.size = w.heap.size + 1 + 1 + 1 := by simp [inW]

theorem inner_of (T0 : TypeId) (x0 r : Value) (w : World) (Q : World → Prop)
    (h : Calls Tryd.prog 67 #[.pointer (some ⟨w.heap.size, 0, none⟩), .pointer (some ⟨w.heap.size + 1, 0, none⟩)] (inW (.iface T0 x0) w)
      fun e w' => e = .returned (.bool true) ∧ w'.cell? ⟨w.heap.size + 1, 0, none⟩ = some r ∧ (w'.cell? ⟨w.heap.size + 1 + 1, 0, none⟩ = some (.bool false) ∧ w'.frozen? ⟨w.heap.size + 1 + 1, 0, none⟩ = false) ∧ Below w.heap.size w w' ∧ Q w') :
    Calls Tryd.prog 47 #[.iface T0 x0] w fun e w' => e = .returned r ∧ ∃ w2, w' = w2.setCell ⟨w.heap.size + 1 + 1, 0, none⟩ (.bool true) ∧ Q w2 ∧ Below w.heap.size w w' := by
  have hmf : ∀ (fn : Fn) (first cap : Array Value) (w : World), (Instr.makeFunc fn first cap).run Tryd.prog w = .ok (.func fn first cap) w := fun _ _ _ _ => rfl
  have h2 := calm_any 67 #[.pointer (some ⟨w.heap.size, 0, none⟩), .pointer (some ⟨w.heap.size + 1, 0, none⟩)] ((w.alloc (.cells #[.iface T0 x0] 48)).alloc (.cells #[.slice none 0 0] 93))
    (fun b w' => b = true ∧ w'.cell? ⟨w.heap.size + 1, 0, none⟩ = some r ∧ Below w.heap.size w w' ∧ Q w') enters47
    (h.mono (by rintro e w' ⟨rfl, h1, h2, h3, h4⟩; exact ⟨true, rfl, by simpa using h2, rfl, h1, h3, h4⟩))
  clear h
  go_enter Tryd.func47, Tryd.ntmps47
  go_wp2_with (fail)
  refine h2.mono ?_
  rintro e w' ⟨b, w2, rfl, ⟨rfl, hr, hb, hq⟩, rfl⟩
  have hr' : (w2.setCell ⟨w.heap.size + 1 + 1, 0, none⟩ (.bool true)).cell? ⟨w.heap.size + 1, 0, none⟩ = some r := (World.cell?_setCell_other _ _ _ _ (by simp)).trans hr
  have HB := hb.setCell (p := ⟨w.heap.size + 1 + 1, 0, none⟩) (by simp; omega) (.bool true)
  simp only [World.size_alloc]
  go_wp2
  go_ret
  exact ⟨rfl, w2, rfl, hq, HB⟩
theorem inW_0 (v : Value) (w : World) : (inW v w).cell? ⟨w.heap.size, 0, none⟩ = some v := by
  unfold inW
  rw [World.cell?_alloc_lt _ _ ⟨w.heap.size, 0, none⟩ (by simp; omega), World.cell?_alloc_lt _ _ ⟨w.heap.size, 0, none⟩ (by simp)]; simp
theorem inW_1 (v : Value) (w : World) : (inW v w).cell? ⟨w.heap.size + 1, 0, none⟩ = some (.slice none 0 0) ∧ (inW v w).frozen? ⟨w.heap.size + 1, 0, none⟩ = false := by
  unfold inW
  rw [World.cell?_alloc_lt _ _ ⟨w.heap.size + 1, 0, none⟩ (by simp), World.frozen?_alloc_old _ _ ⟨w.heap.size + 1, 0, none⟩ (by simp)]; simp
theorem inW_2 (v : Value) (w : World) : (inW v w).cell? ⟨w.heap.size + 1 + 1, 0, none⟩ = some (.bool false) ∧ (inW v w).frozen? ⟨w.heap.size + 1 + 1, 0, none⟩ = false := by
  unfold inW
  rw [cNew (by simp), fNew (by simp)]
  exact ⟨rfl, rfl⟩

theorem inner_step (b : Nat) (T : TypeId) (y : Value) (w : World) (hb : w.cell? ⟨b, 2, none⟩ = some (.iface T y)) :
    Calls Tryd.prog 47 #[.iface 88 (.pointer (some ⟨b, 0, none⟩))] w (Gives w (.iface T y)) := by
  have hI := inner_of 88 (.pointer (some ⟨b, 0, none⟩)) (.slice (some ⟨(inW (.iface 88 (.pointer (some ⟨b, 0, none⟩))) w).heap.size, 0, none⟩) 1 1) w (fun w2 => (inW (.iface 88 (.pointer (some ⟨b, 0, none⟩))) w).heap.size < w2.heap.size ∧ w2.cell? ⟨(inW (.iface 88 (.pointer (some ⟨b, 0, none⟩))) w).heap.size, 0, none⟩ = some (.iface T y))
  have hs := inW_size (.iface 88 (.pointer (some ⟨b, 0, none⟩))) w
  have hB := inW_below (.iface 88 (.pointer (some ⟨b, 0, none⟩))) w
  have h0 := inW_0 (.iface 88 (.pointer (some ⟨b, 0, none⟩))) w
  have h1 := inW_1 (.iface 88 (.pointer (some ⟨b, 0, none⟩))) w
  have h2 := inW_2 (.iface 88 (.pointer (some ⟨b, 0, none⟩))) w
  have hbl : b < w.heap.size := lt_of_cell hb
  generalize inW (.iface 88 (.pointer (some ⟨b, 0, none⟩))) w = W at *
  refine (hI ((inner1_step b w.heap.size (w.heap.size + 1) T y (.slice none 0 0) W ((hB.cell (p := ⟨b, 2, none⟩) hbl).trans hb) h0 h1.1 h1.2).mono ?_)).mono ?_
  · rintro e w' ⟨rfl, rfl⟩
    have hz : (W.setCell ⟨w.heap.size + 1, 0, none⟩ (.slice (some ⟨W.heap.size, 0, none⟩) 1 1)).heap.size = W.heap.size := by simp
    refine ⟨rfl, ?_, ⟨?_, ?_⟩, ?_, by simp, ?_⟩
    · rw [cOld (by omega)]; exact cSet h1.1
    · rw [cOld (by omega), cFar (by simp)]; exact h2.1
    · rw [fOld (by omega), fSet]; exact h2.2
    · exact (hB.setCell (p := ⟨w.heap.size + 1, 0, none⟩) (by simp) _).alloc (by omega) _
    · rw [cNew (by omega)]; rfl
  · rintro e w' ⟨rfl, w2, rfl, ⟨hl, hc⟩, hb'⟩
    exact ⟨W.heap.size, rfl, by omega, by simpa using hl, (cFar (by simp; omega)).trans hc, hb'⟩

theorem inner_24 (x : Value) (w : World) : Calls Tryd.prog 47 #[.iface 39 x] w fun e w' => e = .returned (.slice none 0 0) ∧ Below w.heap.size w w' := by
  refine (inner_of 39 x (.slice none 0 0) w (fun _ => True) ((inner1_leaf24 w.heap.size (w.heap.size + 1) x _ (inW_0 _ w)).mono ?_)).mono ?_
  · rintro e w' ⟨rfl, rfl⟩
    exact ⟨rfl, (inW_1 _ w).1, inW_2 _ w, inW_below _ w, trivial⟩
  · rintro e w' ⟨rfl, w2, rfl, _, hb'⟩
    exact ⟨rfl, hb'⟩

end Go.Proofs.YtehmkkccnadhoaaDoor.Fl
