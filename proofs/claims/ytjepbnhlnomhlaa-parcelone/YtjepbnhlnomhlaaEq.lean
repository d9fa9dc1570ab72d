/-
  A packet, an answer, a header that is compared with itself is the same: no condition but that a header's sums have 32 bytes.
-/
import Derived.Test.YtjepbnhlnomhlaaHeader
namespace Go.Proofs.Ytjepbnhlnomhlaa
open Go.RowKit

theorem eqFields_refl (d : Nat) (xs : Array Value) (w : World) : ∀ fs : List Field, (∀ f ∈ fs, ∃ a, (part f.type xs f.offset).run Try.prog w = .ok a w ∧ (Op.equalIn d f.type a a).run Try.prog w = .ok true w) → (Op.eqFields d xs xs fs).run Try.prog w = .ok true w := by
  intro fs
  induction fs with
  | nil => intro _; rfl
  | cons f fs ih =>
    intro h
    obtain ⟨a, h1, h2⟩ := h f (by simp)
    have h3 := ih fun g hg => h g (by simp [hg])
    unfold Op.eqFields
    split
    · simp only [Sem.run_bind, h1, Result.andThen_ok, h2, Bool.not_true, Bool.false_eq_true, if_false]
      exact h3
    · exact h3
theorem eq_struct (t : TypeId) (xs : Array Value) (w : World) (hS : Try.prog.underlying t = some (.struct (Try.prog.fieldsOf t))) (hp : Try.prog.stoodInHeld t = false)
    (h : ∀ f ∈ (Try.prog.fieldsOf t).toList, ∃ a, (part f.type xs f.offset).run Try.prog w = .ok a w ∧ (Op.equalIn 9999 f.type a a).run Try.prog w = .ok true w) : (Op.equalIn 10000 t (.agg xs) (.agg xs)).run Try.prog w = .ok true w := by
  rw [show (10000 : Nat) = 9999 + 1 from rfl, run_equalIn_agg w 9999 t _ _ hS hp]
  exact eqFields_refl 9999 xs w _ h

theorem part_int (t : TypeId) (k : IntKind) (xs : Array Value) (o : Nat) (n : Int) (w : World) (ht : Try.prog.underlying t = some (.int k)) (hx : xs[o]? = some (.int k n)) : ∃ a, (part t xs o).run Try.prog w = .ok a w ∧ (Op.equalIn 9999 t a a).run Try.prog w = .ok true w := by
  refine ⟨.int k n, ?_, ?_⟩
  · simp [part, isAgg, run_underlying ht, hx]
  · rw [show (9999 : Nat) = 9998 + 1 from rfl, run_equalIn_int w 9998 t k k n n ht]; simp
theorem part_bool (t : TypeId) (xs : Array Value) (o : Nat) (n : Bool) (w : World) (ht : Try.prog.underlying t = some .bool) (hx : xs[o]? = some (.bool n)) : ∃ a, (part t xs o).run Try.prog w = .ok a w ∧ (Op.equalIn 9999 t a a).run Try.prog w = .ok true w := by
  refine ⟨.bool n, ?_, ?_⟩
  · simp [part, isAgg, run_underlying ht, hx]
  · rw [show (9999 : Nat) = 9998 + 1 from rfl, run_equalIn_bool' w 9998 t n n ht]; simp
theorem part_string (t : TypeId) (xs : Array Value) (o : Nat) (n : ByteArray) (w : World) (ht : Try.prog.underlying t = some .string) (hx : xs[o]? = some (.string n)) : ∃ a, (part t xs o).run Try.prog w = .ok a w ∧ (Op.equalIn 9999 t a a).run Try.prog w = .ok true w := by
  refine ⟨.string n, ?_, ?_⟩
  · simp [part, isAgg, run_underlying ht, hx]
  · rw [show (9999 : Nat) = 9998 + 1 from rfl, run_equalIn_string w 9998 t n n ht]; simp

theorem eq24 (z : Int) (seq tm : Nat) (den : List UInt8) (amt : Nat) (frm dst : List UInt8) (w : World) : (Op.equalIn 10000 24 (.agg (pcells z seq tm den amt frm dst)) (.agg (pcells z seq tm den amt frm dst))).run Try.prog w = .ok true w := by
  refine eq_struct 24 _ w (by kernel_rfl) (by kernel_rfl) ?_
  have hl : (Try.prog.fieldsOf 24).toList.map (fun f => (f.type, f.offset)) = [(3, 0), (22, 1), (22, 2), (9, 3), (22, 4), (9, 5), (9, 6)] := by kernel_rfl
  intro f hf
  have : (f.type, f.offset) ∈ (Try.prog.fieldsOf 24).toList.map (fun f => (f.type, f.offset)) := List.mem_map.2 ⟨f, hf, rfl⟩
  rw [hl] at this
  simp only [List.mem_cons, Prod.mk.injEq, List.not_mem_nil, or_false] at this
  rcases this with ⟨e1, e2⟩ | ⟨e1, e2⟩ | ⟨e1, e2⟩ | ⟨e1, e2⟩ | ⟨e1, e2⟩ | ⟨e1, e2⟩ | ⟨e1, e2⟩ <;> rw [e1, e2]
  · exact part_int 3 .i64 _ _ _ w Try.underlying3 rfl
  · exact part_int 22 .u64 _ _ _ w Try.underlying22 rfl
  · exact part_int 22 .u64 _ _ _ w Try.underlying22 rfl
  · exact part_string 9 _ _ _ w Try.underlying9 rfl
  · exact part_int 22 .u64 _ _ _ w Try.underlying22 rfl
  · exact part_string 9 _ _ _ w Try.underlying9 rfl
  · exact part_string 9 _ _ _ w Try.underlying9 rfl
theorem eq27 (ok : Bool) (k : Nat) (w : World) : (Op.equalIn 10000 27 (.agg (acells ok k)) (.agg (acells ok k))).run Try.prog w = .ok true w := by
  refine eq_struct 27 _ w (by kernel_rfl) (by kernel_rfl) ?_
  have hl : (Try.prog.fieldsOf 27).toList.map (fun f => (f.type, f.offset)) = [(4, 0), (25, 1)] := by kernel_rfl
  intro f hf
  have : (f.type, f.offset) ∈ (Try.prog.fieldsOf 27).toList.map (fun f => (f.type, f.offset)) := List.mem_map.2 ⟨f, hf, rfl⟩
  rw [hl] at this
  simp only [List.mem_cons, Prod.mk.injEq, List.not_mem_nil, or_false] at this
  rcases this with ⟨e1, e2⟩ | ⟨e1, e2⟩ <;> rw [e1, e2]
  · exact part_bool 4 _ _ _ w Try.underlying4 rfl
  · exact part_int 25 .i64 _ _ _ w Try.underlying25 rfl
theorem part_sum (pre mid post : List Value) (h : List UInt8) (hm : mid = h.map V8) (o : Nat) (ho : pre.length = o) (hh : h.length = 32) (w : World) : ∃ a, (part 29 (pre ++ (mid ++ post)).toArray o).run Try.prog w = .ok a w ∧ (Op.equalIn 9999 29 a a).run Try.prog w = .ok true w := by
  subst hm
  refine ⟨.agg (bcells h), ?_, ?_⟩
  · have hs : (sizeOf 29).run Try.prog w = .ok 32 w := Try.sizeOf29 w
    have ha : (isAgg 29).run Try.prog w = .ok true w := Try.isAgg29 w
    unfold part
    rw [Sem.run_bind, ha]
    simp only [Result.andThen_ok, if_true, Sem.run_bind, hs, Sem.run_pure]
    have : (pre ++ (h.map V8 ++ post)).toArray.extract o (o + 32) = bcells h := by
      rw [List.extract_toArray, List.extract_eq_take_drop, List.drop_left' ho, Nat.add_sub_cancel_left, List.take_left' (by rw [List.length_map, hh])]
      rfl
    rw [this]
  · have := run_equalIn_bytes w 9997 29 5 32 Try.underlying29 Try.underlying5 (fun w => by
      obtain ⟨i, hi, _, hs, _⟩ := info_of info5
      simp [sizeOf, typeInfo, hi, hs]) h h hh hh
    rw [beq_self_eq_true] at this
    exact this
theorem eq31 (ht tm : Nat) (r v x y : List UInt8) (h1 : r.length = 32) (h2 : v.length = 32) (h3 : x.length = 32) (h4 : y.length = 32) (w : World) : (Op.equalIn 10000 31 (.agg (hcells ht tm r v x y)) (.agg (hcells ht tm r v x y))).run Try.prog w = .ok true w := by
  refine eq_struct 31 _ w (by kernel_rfl) (by kernel_rfl) ?_
  have hl : (Try.prog.fieldsOf 31).toList.map (fun f => (f.type, f.offset)) = [(22, 0), (22, 1), (29, 2), (29, 34), (29, 66), (29, 98)] := by kernel_rfl
  intro f hf
  have : (f.type, f.offset) ∈ (Try.prog.fieldsOf 31).toList.map (fun f => (f.type, f.offset)) := List.mem_map.2 ⟨f, hf, rfl⟩
  rw [hl] at this
  simp only [List.mem_cons, Prod.mk.injEq, List.not_mem_nil, or_false] at this
  unfold hcells
  rcases this with ⟨e1, e2⟩ | ⟨e1, e2⟩ | ⟨e1, e2⟩ | ⟨e1, e2⟩ | ⟨e1, e2⟩ | ⟨e1, e2⟩ <;> rw [e1, e2]
  · exact part_int 22 .u64 _ _ _ w Try.underlying22 rfl
  · exact part_int 22 .u64 _ _ _ w Try.underlying22 rfl
  · rw [hl2]; exact part_sum _ _ _ r rfl 2 rfl h1 w
  · rw [hl34]; exact part_sum _ _ _ v rfl 34 (by simp [h1]) h2 w
  · rw [hl66]; exact part_sum _ _ _ x rfl 66 (by simp [h1, h2]) h3 w
  · rw [hl98]; exact part_sum _ _ _ y rfl 98 (by simp [h1, h2, h3]) h4 w
end Go.Proofs.Ytjepbnhlnomhlaa
