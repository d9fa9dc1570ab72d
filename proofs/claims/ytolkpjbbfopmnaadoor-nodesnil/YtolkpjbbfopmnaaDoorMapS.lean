/-
  Maps that are keyed by sums: what is looked up, what is laid: no condition but that the map lies there with its pairs.
-/
import Derived.WideKeyRuns
import Derived.DeepKeys3
import Derived.Maps.Own
import Derived.Test.YtolkpjbbfopmnaaDoorNodeA
namespace Go.Proofs.YtolkpjbbfopmnaaDoor
open Go.RowKit

/-- Block M is a map with these pairs, of sums and values, in the order in which they came. -/
def MAt (w : World) (M : Nat) (ms : List (List UInt8 × Value)) : Prop :=
  ∃ (es : Array MapEntry) (clock : Nat), w.heap[M]? = some (.map es clock) ∧ es.toList.map (·.key) = ms.map (fun p => Value.agg (Sh.bcells p.1)) ∧ es.toList.map (·.val) = ms.map (·.2) ∧ ∀ p ∈ ms, p.1.length = 32
def MAt.look (ms : List (List UInt8 × Value)) (h : List UInt8) : Option Value := (ms.find? (fun p => p.1 == h)).map (·.2)

theorem keyLits_byte (b : UInt8) : Tryd.prog.keyLits 1 5 [V8 b] = some [.int .u8 b.toNat] := by
  have hb := b.toNat_lt
  have : (Lit.int .u8 (b.toNat : Int)).wf = true := by
    have h1 : IntKind.u8.min = 0 := by decide
    have h2 : IntKind.u8.max = 255 := by decide
    simp [Lit.wf, h1, h2]
    omega
  simp [Program.keyLits, Tryd.underlying5, V8, this]
theorem mapM_some {α β : Type} (f : α → Option β) : ∀ (l : List α), (∀ x ∈ l, ∃ y, f x = some y) → ∃ ys, l.mapM f = some ys := by
  intro l
  induction l with
  | nil => intro _; exact ⟨[], rfl⟩
  | cons x l ih =>
    intro h
    obtain ⟨y, hy⟩ := h x (by simp)
    obtain ⟨ys, hys⟩ := ih (fun z hz => h z (by simp [hz]))
    exact ⟨y :: ys, by simp [List.mapM_cons, hy, hys]⟩
theorem keyLits_sum (h : List UInt8) (hl : h.length = 32) : ∃ la, Tryd.prog.keyLits 2 29 (h.map V8) = some la := by
  have hc : Tryd.prog.cellsOf 29 = 32 := by kernel_rfl
  have h5 : Tryd.prog.cellsOf 5 = 1 := by kernel_rfl
  obtain ⟨ys, hys⟩ := mapM_some (fun i => Tryd.prog.keyLits 1 5 (((h.map V8).drop (i * 1)).take 1)) (List.range 32) (fun i hi => by
    have hi' : i < h.length := by rw [hl]; exact List.mem_range.1 hi
    refine ⟨[.int .u8 (h[i]).toNat], ?_⟩
    have : ((h.map V8).drop (i * 1)).take 1 = [V8 h[i]] := by
      rw [Nat.mul_one, List.drop_eq_getElem_cons (by rw [List.length_map]; exact hi')]
      simp
    simp only [this]
    exact keyLits_byte _)
  refine ⟨ys.flatten, ?_⟩
  unfold Program.keyLits
  simp only [Tryd.underlying29]
  rw [hc, h5, if_pos (by rw [List.length_map, hl]), hys]
  rfl
theorem check_sum (e : Bool) (h : List UInt8) (hl : h.length = 32) (w : World) : (Instr.checkKey e 10000 29 (.agg (Sh.bcells h))).run Tryd.prog w = .ok () w := by
  obtain ⟨la, hla⟩ := keyLits_sum h hl
  refine run_checkKey_deep e 9998 2 29 (by kernel_rfl) w 2 _ la ?_ ?_
  · have hc : Tryd.prog.cellsOf 29 = 32 := by kernel_rfl
    simp [Value.formed, Tryd.underlying29, hc, Sh.bcells_size, hl]
  · have e : (Value.agg (Sh.bcells h)).cells.toList = h.map V8 := by
      simp only [Value.cells, Sh.bcells]
      rfl
    rw [e]
    exact hla
theorem eq_sum (a b : List UInt8) (ha : a.length = 32) (hb : b.length = 32) (w : World) : (Op.equal 29 (.agg (Sh.bcells a)) (.agg (Sh.bcells b))).run Tryd.prog w = .ok (a == b) w := by
  have := run_eq49 a b ha hb w
  simpa [Op.equal, Op.maxDepth] using this
set_option maxRecDepth 100000 in
theorem findAsking_sum (h : List UInt8) (hl : h.length = 32) (w : World) : ∀ (es : List MapEntry) (ms : List (List UInt8 × Value)) (i : Nat), es.map (·.key) = ms.map (fun p => Value.agg (Sh.bcells p.1)) → es.map (·.val) = ms.map (·.2) → (∀ p ∈ ms, p.1.length = 32) →
    (MAt.look ms h = none → (Instr.findAsking 29 (.agg (Sh.bcells h)) es i).run Tryd.prog w = .ok none w) ∧ ∀ v, MAt.look ms h = some v → ∃ j, (Instr.findAsking 29 (.agg (Sh.bcells h)) es i).run Tryd.prog w = .ok (some (j, v)) w
  | [], [], _, _, _, _ => ⟨fun _ => rfl, fun v hv => by simp [MAt.look] at hv⟩
  | [], p :: ms, _, hk, _, _ => by simp at hk
  | e :: es, [], _, hk, _, _ => by simp at hk
  | e :: es, p :: ms, i, hk, hv, hs => by
    simp only [List.map_cons, List.cons.injEq] at hk hv
    have heq := eq_sum h p.1 hl (hs p (by simp)) w
    have ih := findAsking_sum h hl w es ms (i + 1) hk.2 hv.2 (fun q hq => hs q (by simp [hq]))
    by_cases hp : h = p.1
    · have hb : (h == p.1) = true := by simp [hp]
      have hlook : MAt.look (p :: ms) h = some p.2 := by simp [MAt.look, hp]
      rw [hb] at heq
      refine ⟨fun hn => (by rw [hlook] at hn; cases hn), fun v hvv => ⟨i, ?_⟩⟩
      rw [hlook] at hvv
      injection hvv with hvv
      subst hvv
      simp only [Instr.findAsking, hk.1, Sem.run_bind, heq, Result.andThen, hv.1]
      rfl
    · have hb : (h == p.1) = false := by simp [hp]
      have hlook : MAt.look (p :: ms) h = MAt.look ms h := by
        have : (p.1 == h) = false := by simp; exact fun e => hp e.symm
        simp [MAt.look, this]
      rw [hb] at heq
      rw [hlook]
      constructor
      · intro hn
        simp only [Instr.findAsking, hk.1, Sem.run_bind, heq, Result.andThen]
        exact ih.1 hn
      · intro v hvv
        obtain ⟨j, hj⟩ := ih.2 v hvv
        refine ⟨j, ?_⟩
        simp only [Instr.findAsking, hk.1, Sem.run_bind, heq, Result.andThen]
        exact hj
/-- A block replaced. -/
def putM (w : World) (M : Nat) (o : Obj) : World := { w with heap := w.heap.setIfInBounds M o }
set_option maxRecDepth 100000 in
theorem lookup_absent {z : Value} {w : World} {M : Nat} {ms : List (List UInt8 × Value)} (hM : MAt w M ms) (h : List UInt8) (hl : h.length = 32) (hn : MAt.look ms h = none) (hz : (zeroValue 47).run Tryd.prog w = .ok z w) :
    (Instr.lookup 94 (.map (some M)) (.agg (Sh.bcells h)) true).run Tryd.prog w = .ok (.tuple #[z, .bool false]) w := by
  obtain ⟨es, clock, hg0, hk, hv, hs⟩ := hM
  have hf : (Instr.findKey 29 (.agg (Sh.bcells h)) es.toList).run Tryd.prog w = .ok none w := by
    rw [run_findKey_eq w (by rw [Tryd.underlying29])]
    exact (findAsking_sum h hl w es.toList ms 0 hk hv hs).1 hn
  have hc := check_sum es.isEmpty h hl w
  have hg : (getObj M).run Tryd.prog w = .ok (.map es clock) w := by simp [getObj, Sem.run, hg0]
  simp [Instr.lookup, run_underlying Tryd.underlying94, hg, hc, hf, hz, Result.andThen, Sem.run_bind]
set_option maxRecDepth 100000 in
theorem lookup_there {w : World} {M : Nat} {ms : List (List UInt8 × Value)} (hM : MAt w M ms) (h : List UInt8) (hl : h.length = 32) {v : Value} (hn : MAt.look ms h = some v) :
    (Instr.lookup 94 (.map (some M)) (.agg (Sh.bcells h)) true).run Tryd.prog w = .ok (.tuple #[v, .bool true]) w := by
  obtain ⟨es, clock, hg0, hk, hv, hs⟩ := hM
  obtain ⟨j, hj⟩ := (findAsking_sum h hl w es.toList ms 0 hk hv hs).2 v hn
  have hf : (Instr.findKey 29 (.agg (Sh.bcells h)) es.toList).run Tryd.prog w = .ok (some (j, v)) w := by
    rw [run_findKey_eq w (by rw [Tryd.underlying29])]
    exact hj
  have hc := check_sum es.isEmpty h hl w
  have hg : (getObj M).run Tryd.prog w = .ok (.map es clock) w := by simp [getObj, Sem.run, hg0]
  simp [Instr.lookup, run_underlying Tryd.underlying94, hg, hc, hf, Result.andThen, Sem.run_bind]
set_option maxRecDepth 100000 in
theorem update_new {w : World} {M : Nat} {ms : List (List UInt8 × Value)} (hM : MAt w M ms) (h : List UInt8) (hl : h.length = 32) (hn : MAt.look ms h = none) (v : Value) :
    ∃ w', (Instr.mapUpdate 94 (.map (some M)) (.agg (Sh.bcells h)) v).run Tryd.prog w = .ok () w' ∧ MAt w' M (ms ++ [(h, v)]) ∧ (∀ k, k ≠ M → w'.heap[k]? = w.heap[k]?) ∧ w'.heap.size = w.heap.size ∧ w'.os = w.os ∧ w'.tape = w.tape ∧ w'.output = w.output := by
  obtain ⟨es, clock, hg0, hk, hv, hs⟩ := hM
  have hf : (Instr.findKey 29 (.agg (Sh.bcells h)) es.toList).run Tryd.prog w = .ok none w := by
    rw [run_findKey_eq w (by rw [Tryd.underlying29])]
    exact (findAsking_sum h hl w es.toList ms 0 hk hv hs).1 hn
  have hc := check_sum false h hl w
  have hg : (getObj M).run Tryd.prog w = .ok (.map es clock) w := by simp [getObj, Sem.run, hg0]
  have hst : ∀ o, (setObj M o).run Tryd.prog w = .ok () (putM w M o) := fun o => by simp [setObj, Sem.run, hg0, putM]
  refine ⟨putM w M (.map (es.push { key := .agg (Sh.bcells h), val := v, born := clock }) (clock + 1)), ?_, ?_, ?_, ?_, rfl, rfl, rfl⟩
  · simp [Instr.mapUpdate, run_underlying Tryd.underlying94, hg, hc, hf, hst, Result.andThen, Sem.run_bind]
  · refine ⟨es.push { key := .agg (Sh.bcells h), val := v, born := clock }, clock + 1, ?_, ?_, ?_, ?_⟩
    · have hlt : M < w.heap.size := (Array.getElem?_eq_some_iff.1 hg0).1
      simp [putM, hlt]
    · simp [hk]
    · simp [hv]
    · intro p hp
      simp only [List.mem_append, List.mem_singleton] at hp
      rcases hp with hp | rfl
      · exact hs p hp
      · exact hl
  · intro k hne
    simp [putM, Ne.symm hne]
  · simp [putM]
end Go.Proofs.YtolkpjbbfopmnaaDoor
