/-
  A way in a row of the call's own: a step more, in its spare room or in a new row; the row with the step left out again: no condition.
-/
import Derived.Test.YtolkpjbbfopmnaaDoorBGet
import Derived.Test.YtolkpjbbfopmnaaDoorQueue
namespace Go.Proofs.YtolkpjbbfopmnaaDoor
open Go.RowKit

theorem info4w : (Tryd.prog.info? 4).map (fun i => (i.zero, i.size, i.bytes)) = some (some (.bool false), 1, 1) := by kernel_rfl
theorem own_front {w : World} {base n c : Nat} {W : Option Addr} {xs : List Value} {x : Value} (h : w.ownsRow base 4 1 (.slice W (n + 1) c) (n + 1) (xs ++ [x])) : w.ownsRow base 4 1 (.slice W n c) n xs := by
  have hl := h.1
  rw [List.length_append] at hl
  refine ⟨by simp at hl; omega, ?_⟩
  rcases h.2 with ⟨_, h0⟩ | ⟨g, cap, cur, e, h2, h3, h4, h5, h6, h7⟩
  · omega
  · injection e with e1 _ e3
    subst e1 e3
    refine .inr ⟨g, c, cur, rfl, h2, h3, by omega, h5, h6, ?_⟩
    have hx : xs.length = n := by simp at hl; omega
    have := congrArg (List.take n) h7
    rw [List.take_take, Nat.min_eq_left (by omega), List.take_left' hx] at this
    rw [Nat.mul_one]
    exact this
theorem append_way (w : World) (base : Nat) (W : Option Addr) (n c : Nat) (xs : List Value) (h : w.ownsRow base 4 1 (.slice W n c) n xs) (hbase : base ≤ w.heap.size) (gb : Nat) (x : Value) (ha : w.cell? ⟨gb, 0, none⟩ = some x) (hx : x.oneCell' = true) (hn : n ≤ 1000) (ty : TypeId) :
    ∃ v' w', (Builtin.append_ #[123, 123] ty #[.slice W n c, (.slice (some ⟨gb, 0, none⟩) 1 1)]).run Tryd.prog w = .ok v' w' ∧ w'.ownsRow base 4 1 v' (n + 1) (xs ++ [x]) ∧ w.grownBy w' (Value.slice W n c).ownBlock ∧
      (v' = .slice W (n + 1) c ∨ ∃ b, v'.ownBlock = some b ∧ w.heap.size ≤ b ∧ w'.ownsRow base 4 1 (.slice W n c) n xs) := by
  obtain ⟨i, hi, hz, hsz, hby⟩ := info_of info4w
  by_cases hroom : n + 1 ≤ c
  · rcases h.2 with ⟨e, h0⟩ | ⟨g, cap, cur, e, h2, h3, h4, h5, h6, h7⟩
    · injection e with _ _ e3
      omega
    · injection e with e1 _ e3
      subst e1 e3
      have hw : Whole w g 4 cur := h3
      have hr := run_append_room_cells (P := Tryd.prog) w 123 ty 4 i Tryd.underlying123 hi g 0 n c ⟨gb, 0, none⟩ 1 1 [x] (by rw [hsz]; rfl) (fun j u hu => by
        match j, hu with
        | 0, hu => simp at hu; subst hu; rw [Addr.add_mid]; exact ha) (by intro u hu; simp at hu; subst hu; exact hx) hroom
        (fun j hj => by
          rw [hsz]
          have hj' : j < 1 := hj
          rw [hw.at_ (Array.getElem?_eq_getElem (by omega))]; rfl) (fun j _ => hw.free _)
      rw [hsz, Nat.mul_one, Nat.zero_add] at hr
      refine ⟨_, _, hr, ⟨by rw [List.length_append, h.1]; simp, .inr ⟨g, c, cur.setIfInBounds n x, rfl, h2, hw.set n x, hroom, h5, by simpa using h6, ?_⟩⟩, ?_, .inl rfl⟩
      · rw [Nat.mul_one] at h7 ⊢
        have hcl : n < cur.toList.length := by rw [Array.length_toList]; omega
        rw [Array.toList_setIfInBounds, List.take_add_one, List.take_set_of_le (Nat.le_refl _), h7, List.getElem?_set_self hcl]
        rfl
      · exact ⟨rfl, rfl, rfl, by rw [size_setCells]; exact Nat.le_refl _, fun k hk hne => setCells_other g [x] n w k (fun e => hne (by rw [e]; rfl))⟩
  · cases W with
    | none =>
      obtain rfl : n = 0 := by
        rcases h.2 with ⟨_, h0⟩ | ⟨g, cap, cur, e, _⟩
        · exact h0
        · cases e
      have hlt : gb < w.heap.size := World.block_lt_of_cell? w ⟨gb, 0, none⟩ ha
      have hr : RdV w w.heap.size 1 (some ⟨gb, 0, none⟩) 1 [x] := ⟨rfl, fun _ => ⟨gb, 0, rfl, hlt, fun j u hu => by
        match j, hu with
        | 0, hu => simp at hu; subst hu; exact ha⟩⟩
      obtain ⟨v', w', hrun, hown, hgr, hat⟩ := run_append_rd w base 123 ty 4 _ 1 1 Tryd.underlying123 info4w rfl (by omega) _ 0 xs h _ _ 1 1 [x] hr (by intro u hu; simp at hu; subst hu; exact hx) (by unfold maxLen; omega) (by omega) hbase
      refine ⟨v', w', hrun, hown, hgr, .inr ?_⟩
      rcases hat with hat | hat
      · rcases hown.2 with ⟨_, h0⟩ | ⟨g', cap', cur', e', _⟩
        · omega
        · rw [e'] at hat
          cases hat
      · refine ⟨_, hat, Nat.le_refl _, h.1, .inl ?_⟩
        rcases h.2 with e | ⟨g, cap, cur, e, _⟩
        · exact e
        · cases e
    | some ad =>
      rcases h.2 with ⟨e, _⟩ | ⟨g, cap, cur, e, h2, h3, h4, h5, h6, h7⟩
      · cases e
      · injection e with e1 _ e3
        injection e1 with e1
        subst e1 e3
        have hw : Whole w g 4 cur := h3
        obtain ⟨v', w', hr, hown, hgr⟩ := run_append_arg_grows (P := Tryd.prog) w 123 ty 4 i _ 1 1 Tryd.underlying123 hi hz hsz hby rfl (by omega) ⟨g, 0, none⟩ n c xs h.1 (fun j u hu => by
          exact h.cells (g := g) rfl j u hu) ⟨gb, 0, none⟩ 1 1 [x] rfl (fun j u hu => by
          match j, hu with
          | 0, hu => simp at hu; subst hu; rw [Addr.add_mid]; exact ha) (by omega) (by unfold maxLen; omega) (by omega)
        refine ⟨v', w', hr, ?_, ⟨hgr.os, hgr.tape, hgr.output, hgr.size, fun k hk hne => hgr.block k hk (fun e => by cases e)⟩, .inr ?_⟩
        · refine ⟨hown.1, ?_⟩
          rcases hown.2 with ⟨_, h0⟩ | ⟨g', cap', cur', e', k2, k3⟩
          · omega
          · exact .inr ⟨g', cap', cur', e', Nat.le_trans hbase k2, k3⟩
        · rcases hown.2 with ⟨_, h0⟩ | ⟨g', cap', cur', e', k2, k3⟩
          · omega
          · exact ⟨g', by rw [e']; rfl, k2, h.1, .inr ⟨g, c, cur, rfl, h2, (hgr.block g hw.lt (fun e => by cases e)).trans h3, h4, h5, h6, h7⟩⟩
/-- append of a step to a way, at an operation of a region that draws. -/
theorem step_append_way {o : Oper} {a : Act} {w : World} {K : Act → World → Prop} {Q : Exit → Act → World → Prop} (s x : Operand)
    (ho : o.op = .call { callee := .builtin .append, args := #[s, x], argTypes := #[123, 123] }) (v y v' : Value) (w' : World) (hs : a.eval s = v) (hx : a.eval x = y)
    (hrun : (Builtin.append_ #[123, 123] o.type #[v, y]).run Tryd.prog w = .ok v' w') (h : K (a.put o.dst v') w') : o.wp Tryd.prog a w K Q := by
  unfold Oper.wp execOp
  simp only [ho, resolve, invoke, builtin, Sem.run_bind, Sem.run_pure, Result.andThen_ok, List.map_toArray, List.map_cons, List.map_nil, hs, hx, hrun]
  exact h
end Go.Proofs.YtolkpjbbfopmnaaDoor
