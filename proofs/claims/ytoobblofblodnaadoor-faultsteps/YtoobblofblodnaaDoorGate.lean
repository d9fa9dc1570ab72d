/-
  newGate and its function: a Step is let in once; what others wrap is counted.
-/
import Derived.Test.YtoobblofblodnaaDoorFacts
import Derived.Test.YtoobblofblodnaaDoorErr
import Derived.Shelf.Abstract
namespace Go.Proofs.YtoobblofblodnaaDoor
open Go.RowKit Go.Extern.Stop Go.Stop Go.Extern Go.Shelf

theorem newGate_any (w : World) : Calls Tryd.prog 37 #[] w fun e w' => e = .returned (.func (.func 45) #[] #[.pointer (some ⟨w.heap.size + 1, 0, none⟩), .pointer (some ⟨w.heap.size + 1 + 1, 0, none⟩)]) ∧
    w' = ((w.alloc (.map #[] 0)).alloc (.cells #[.map (some w.heap.size)] 110)).alloc (.cells #[.int .i64 0] 3) := by
  have hmf : ∀ (fn : Fn) (first cap : Array Value) (w : World), (Instr.makeFunc fn first cap).run Tryd.prog w = .ok (.func fn first cap) w := fun _ _ _ _ => rfl
  have hmm := @run_makeMap Tryd.prog
  go_enter Tryd.func37, Tryd.ntmps37
  go_wp2
  go_ret
  exact ⟨rfl, rfl⟩

/-- The keys of a map: Steps at these blocks. -/
def KeysAt (w : World) (es : List MapEntry) (bs : List Nat) : Prop := es.map (·.key) = bs.map (fun b => Value.pointer (some ⟨b, 0, none⟩)) ∧ ∀ b ∈ bs, ∃ c t, w.heap[b]? = some (.cells c t (0, 0))

theorem eqStep_other {a b : Nat} (w : World) (hne : a ≠ b) {ca cb : Array Value} {ta tb : TypeId} (ha : w.heap[a]? = some (.cells ca ta (0, 0))) (hb : w.heap[b]? = some (.cells cb tb (0, 0))) :
    (Op.equal 40 (.pointer (some ⟨a, 0, none⟩)) (.pointer (some ⟨b, 0, none⟩))).run Tryd.prog w = .ok false w := by
  obtain ⟨j, hj, hz⟩ : ∃ j, Tryd.prog.info? 46 = some j ∧ j.size ≠ 0 := by
    have h : (Tryd.prog.info? 46).map (·.size) = some 3 := by kernel_rfl
    obtain ⟨j, hj, hz⟩ := Option.map_eq_some_iff.1 h
    exact ⟨j, hj, by rw [hz]; decide⟩
  have h : ∀ d : Nat, (Op.equalIn (d + 1) 40 (.pointer (some ⟨a, 0, none⟩)) (.pointer (some ⟨b, 0, none⟩))).run Tryd.prog w = .ok false w := fun d => by
    simp [Op.equalIn, run_underlying Tryd.underlying40, sizeOf, typeInfo, hj, hz, run_sameAddr_other w (a := ⟨a, 0, none⟩) (b := ⟨b, 0, none⟩) (fun e => hne (by cases e; rfl)) ha hb]
  simp [Op.equal, Op.maxDepth, h 9999]

theorem findAsking_none {b : Nat} {c : Array Value} {t : TypeId} (w : World) (hb : w.heap[b]? = some (.cells c t (0, 0))) : ∀ (es : List MapEntry) (bs : List Nat) (i : Nat), KeysAt w es bs → b ∉ bs →
    (Instr.findAsking 40 (.pointer (some ⟨b, 0, none⟩)) es i).run Tryd.prog w = .ok none w
  | [], _, _, _, _ => rfl
  | e :: es, [], _, h, _ => by simp [KeysAt] at h
  | e :: es, k :: bs, i, h, hn => by
    obtain ⟨h1, h2⟩ := h
    simp only [List.map_cons, List.cons.injEq] at h1
    obtain ⟨ck, tk, hk⟩ := h2 k (by simp)
    have ih := findAsking_none w hb es bs (i + 1) ⟨h1.2, fun x hx => h2 x (by simp [hx])⟩ (fun hx => hn (by simp [hx]))
    simp only [Instr.findAsking, h1.1, Sem.run_bind, eqStep_other w (fun e => hn (by simp [e])) hb hk, Result.andThen]
    exact ih

theorem findKey_none {b : Nat} {c : Array Value} {t : TypeId} (w : World) (hb : w.heap[b]? = some (.cells c t (0, 0))) (es : List MapEntry) (bs : List Nat) (h : KeysAt w es bs) (hn : b ∉ bs) :
    (Instr.findKey 40 (.pointer (some ⟨b, 0, none⟩)) es).run Tryd.prog w = .ok none w := by
  cases es with
  | nil => simp [Instr.findKey, run_underlying Tryd.underlying40, Instr.findNow]
  | cons e es =>
    have hf := findAsking_none w hb (e :: es) bs 0 h hn
    simp only [Instr.findKey, Sem.run_bind, run_underlying Tryd.underlying40, Result.andThen]
    have hk : Instr.findNow (.pointer 46) (.pointer (some ⟨b, 0, none⟩)) (e :: es) 0 = none := by simp [Instr.findNow, Instr.sameNow]
    rw [hk]
    exact hf

theorem checkStep (e : Bool) (b : Nat) (w : World) (d : Nat) : (Instr.checkKey e (d + 1) 40 (.pointer (some ⟨b, 0, none⟩))).run Tryd.prog w = .ok () w := by
  simp [Instr.checkKey, run_underlying Tryd.underlying40]

theorem lookup_none {b M : Nat} {c : Array Value} {t : TypeId} {es : Array MapEntry} {clock : Nat} (w : World) (hM : w.heap[M]? = some (.map es clock)) (hb : w.heap[b]? = some (.cells c t (0, 0))) (bs : List Nat) (h : KeysAt w es.toList bs) (hn : b ∉ bs) :
    (Instr.lookup 110 (.map (some M)) (.pointer (some ⟨b, 0, none⟩)) true).run Tryd.prog w = .ok (.tuple #[.agg #[], .bool false]) w := by
  have hf := findKey_none w hb es.toList bs h hn
  have hc : (Instr.checkKey es.isEmpty 10000 40 (.pointer (some ⟨b, 0, none⟩))).run Tryd.prog w = .ok () w := checkStep _ _ _ 9999
  have hz : (zeroValue 111).run Tryd.prog w = .ok (.agg #[]) w := by kernel_rfl
  have hg : (getObj M).run Tryd.prog w = .ok (.map es clock) w := by simp [getObj, Sem.run, hM]
  simp [Instr.lookup, run_underlying Tryd.underlying110, hg, hc, hf, hz, Result.andThen, Sem.run_bind]

theorem update_new {b M : Nat} {c : Array Value} {t : TypeId} {es : Array MapEntry} {clock : Nat} (w : World) (hM : w.heap[M]? = some (.map es clock)) (hb : w.heap[b]? = some (.cells c t (0, 0))) (bs : List Nat) (h : KeysAt w es.toList bs) (hn : b ∉ bs) :
    (Instr.mapUpdate 110 (.map (some M)) (.pointer (some ⟨b, 0, none⟩)) (.agg #[])).run Tryd.prog w = .ok () (w.putObj M (.map (es.push { key := .pointer (some ⟨b, 0, none⟩), val := .agg #[], born := clock }) (clock + 1))) := by
  have hf := findKey_none w hb es.toList bs h hn
  have hc : (Instr.checkKey false 10000 40 (.pointer (some ⟨b, 0, none⟩))).run Tryd.prog w = .ok () w := checkStep _ _ _ 9999
  have hg : (getObj M).run Tryd.prog w = .ok (.map es clock) w := by simp [getObj, Sem.run, hM]
  have hs : ∀ o, (setObj M o).run Tryd.prog w = .ok () (w.putObj M o) := fun o => by simp [setObj, Sem.run, hM, World.putObj]
  simp [Instr.mapUpdate, run_underlying Tryd.underlying110, hg, hc, hf, hs, Result.andThen, Sem.run_bind]

theorem gate_24 (x : Value) (pm pf : Value) (w : World) : Calls Tryd.prog 45 #[.iface 24 x, pm, pf] w fun e w' => e = .returned (.bool true) ∧ w = w' := by
  have q1 := tA24_40
  have q2 := tA24_89
  have q3 := tA24_91
  go_enter Tryd.func45, Tryd.ntmps45
  go_wp2
  go_ret
  exact ⟨rfl, rfl⟩

theorem gate_94 (x : Value) (pm pf : Value) (w : World) : Calls Tryd.prog 45 #[.iface 94 x, pm, pf] w fun e w' => e = .returned (.bool true) ∧ w = w' := by
  have q1 := tA94_40
  have q2 := tA94_89
  have q3 := tA94_91
  go_enter Tryd.func45, Tryd.ntmps45
  go_wp2
  go_ret
  exact ⟨rfl, rfl⟩

theorem gate_other (x : Value) (pm : Value) (Fb k : Nat) (hk : k < 1000) (w : World) (hf : w.cell? ⟨Fb, 0, none⟩ = some (.int .i64 k)) (hz : w.frozen? ⟨Fb, 0, none⟩ = false) :
    Calls Tryd.prog 45 #[.iface 43 x, pm, .pointer (some ⟨Fb, 0, none⟩)] w fun e w' => e = .returned (.bool true) ∧ w' = w.setCell ⟨Fb, 0, none⟩ (.int .i64 ((k : Int) + 1)) := by
  have q1 := tA43_40
  have q2 := tA43_89
  have q3 := tA43_91
  have hs : (w.setCell ⟨Fb, 0, none⟩ (.int .i64 ((k : Int) + 1))).cell? ⟨Fb, 0, none⟩ = some (.int .i64 ((k : Int) + 1)) := cSet hf
  go_enter Tryd.func45, Tryd.ntmps45
  go_wp2
  go_ret
  exact ⟨by simp; omega, rfl⟩

theorem gate_step (b Mb M Fb : Nat) (c : Array Value) (t : TypeId) (es : Array MapEntry) (clock : Nat) (bs : List Nat) (w : World) (hMb : w.cell? ⟨Mb, 0, none⟩ = some (.map (some M))) (hM : w.heap[M]? = some (.map es clock)) (hb : w.heap[b]? = some (.cells c t (0, 0)))
    (h : KeysAt w es.toList bs) (hn : b ∉ bs) :
    Calls Tryd.prog 45 #[.iface 40 (.pointer (some ⟨b, 0, none⟩)), .pointer (some ⟨Mb, 0, none⟩), .pointer (some ⟨Fb, 0, none⟩)] w fun e w' => e = .returned (.bool true) ∧
      w' = (w.alloc (.cells #[] 111)).putObj M (.map (es.push { key := .pointer (some ⟨b, 0, none⟩), val := .agg #[], born := clock }) (clock + 1)) := by
  have q1 := tA40_40
  have hMl : M < w.heap.size := lt_of_block hM
  have hbl : b < w.heap.size := lt_of_block hb
  have hMbl : Mb < w.heap.size := lt_of_cell hMb
  have hl := lookup_none w hM hb bs h hn
  have hMb1 : (w.alloc (.cells #[] 111)).cell? ⟨Mb, 0, none⟩ = some (.map (some M)) := (cOld hMbl).trans hMb
  have hu := update_new (w.alloc (.cells #[] 111)) ((Below.heap_alloc w _ M hMl).trans hM) ((Below.heap_alloc w _ b hbl).trans hb) bs ⟨h.1, fun k hk => by
    obtain ⟨c', t', h'⟩ := h.2 k hk
    exact ⟨c', t', (Below.heap_alloc w _ k (lt_of_block h')).trans h'⟩⟩ hn
  go_enter Tryd.func45, Tryd.ntmps45
  go_wp2
  go_ret
  exact ⟨rfl, rfl⟩

theorem layers_any (T : TypeId) (x : Value) (w : World) : Calls Tryd.prog 20 #[.iface T x] w fun e w' => e = .returned (.func (.func 36) #[] #[.pointer (some ⟨w.heap.size, 0, none⟩)]) ∧ w' = w.alloc (.cells #[.iface T x] 27) := by
  have hmf : ∀ (fn : Fn) (first cap : Array Value) (w : World), (Instr.makeFunc fn first cap).run Tryd.prog w = .ok (.func fn first cap) w := fun _ _ _ _ => rfl
  go_enter Tryd.func20, Tryd.ntmps20
  go_wp2
  go_ret
  exact ⟨rfl, rfl⟩

theorem layers_nil (w : World) : Calls Tryd.prog 20 #[.nilIface] w fun e w' => e = .returned (.func (.func 36) #[] #[.pointer (some ⟨w.heap.size, 0, none⟩)]) ∧ w' = w.alloc (.cells #[.nilIface] 27) := by
  have hmf : ∀ (fn : Fn) (first cap : Array Value) (w : World), (Instr.makeFunc fn first cap).run Tryd.prog w = .ok (.func fn first cap) w := fun _ _ _ _ => rfl
  go_enter Tryd.func20, Tryd.ntmps20
  go_wp2
  go_ret
  exact ⟨rfl, rfl⟩

theorem backward_any (A : Option Addr) (n c : Nat) (w : World) : Calls Tryd.prog 38 #[.slice A n c] w fun e w' => e = .returned (.func (.func 46) #[] #[.pointer (some ⟨w.heap.size, 0, none⟩)]) ∧ w' = w.alloc (.cells #[.slice A n c] 84) := by
  have hmf : ∀ (fn : Fn) (first cap : Array Value) (w : World), (Instr.makeFunc fn first cap).run Tryd.prog w = .ok (.func fn first cap) w := fun _ _ _ _ => rfl
  go_enter Tryd.func38, Tryd.ntmps38
  go_wp2
  go_ret
  exact ⟨rfl, rfl⟩

theorem gate_nil (pm pf : Value) (w : World) : Calls Tryd.prog 45 #[.nilIface, pm, pf] w fun e w' => e = .returned (.bool false) ∧ w = w' := by
  have q := nilEqN
  go_enter Tryd.func45, Tryd.ntmps45
  go_wp2
  go_ret
  exact ⟨rfl, rfl⟩

theorem enters45 (args : Array Value) (w : World) : (callFunc 45 args).run Tryd.prog w = .ok (.enter 45 args) w := enters_of Tryd.func45 (by kernel_rfl) rfl args w
theorem enters46 (args : Array Value) (w : World) : (callFunc 46 args).run Tryd.prog w = .ok (.enter 46 args) w := enters_of Tryd.func46 (by kernel_rfl) rfl args w
theorem enters36 (args : Array Value) (w : World) : (callFunc 36 args).run Tryd.prog w = .ok (.enter 36 args) w := enters_of Tryd.func36 (by kernel_rfl) rfl args w
end Go.Proofs.YtoobblofblodnaaDoor
