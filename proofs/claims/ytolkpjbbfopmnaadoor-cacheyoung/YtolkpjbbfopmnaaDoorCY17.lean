/-
  drop: the oldest goes; conditions: the cache holds one. It turns the cache, its map, and makes memory of its own.
  take: a node that isn't held yet, out of its bytes; conditions: the cache lies in memory, the bytes are those of a node of the trees. It turns the cache, its map and its row, and makes memory of its own.
  freshen: a sum that is held goes to the end of the order; conditions: the cache lies in memory, the sum is in its order. It turns the cache's row, and makes memory of its own.
  read: a node of the trees, out of the cache or out of the base; conditions: the cache and its base lie in memory, the base holds a node of the trees under the sum. It turns the cache, its map and its row, and makes memory of its own.
  Node of a cache: a node of the trees, copied; conditions: as read's. It turns the cache, its map and its row, and makes memory of its own.
  read and Node of a cache at a sum that neither the cache nor its base has: there is none; conditions: the cache and its base lie in memory. They only make memory of their own.
  made: a tree that grew by calls, a base of it, a cache; conditions: the calls lie in memory, the room is one to 4096. It only makes memory of its own.
-/
import Derived.Deep.Upon
import Derived.ArgAppend
import Derived.Test.YtolkpjbbfopmnaaDoorCY14
import Derived.Test.YtolkpjbbfopmnaaDoorCY16
namespace Go.Proofs.YtolkpjbbfopmnaaDoor
open Go.RowKit
open Tr

theorem scells_cons (h : List UInt8) (os : List (List UInt8)) : scells (h :: os) = h.map V8 ++ scells os := by simp [scells]
set_option maxRecDepth 100000 in
/-- What follows the oldest, behind a piece that has no room: in new memory, or nothing. -/
theorem append_rest {u : World} {B g m c : Nat} {A' : Option Addr} {h0 : List UInt8} {os : List (List UInt8)} (hown : u.ownsRow B 29 32 (.slice (some ⟨g, 0, none⟩) m c) m (scells (h0 :: os))) (hm : m = (h0 :: os).length) (hm4 : m ≤ 4096) (hl0 : h0.length = 32)
    (hif : (if c = 1 then (some ⟨g, 0, none⟩ : Option Addr) else some ⟨g, 32, none⟩) = A') (ty : TypeId) :
    ∃ v' u', (Builtin.append_ #[61, 61] ty #[.slice (some ⟨g, 0, none⟩) 0 0, .slice A' (m - 1) (c - 1)]).run Tryd.prog u = .ok v' u' ∧ ORow u' B v' os ∧ u.grownBy u' none ∧ (v'.ownBlock = some g ∨ ∃ k, v'.ownBlock = some k ∧ u.heap.size ≤ k ∧ k < u'.heap.size) := by
  obtain ⟨i, hi, hz, hs, hby⟩ := info_of info49f
  obtain ⟨A0, c0, e0, hnc, _⟩ := own_form hown
  have hmc : m ≤ c := by injection e0 with _ _ e0; omega
  have hpos : 0 < m := by rw [hm]; simp
  obtain ⟨g', c', e1, hgB, hlt⟩ := hown.form hpos
  have hgg : g' = g := by injection e1 with e1; injection e1 with e1; injection e1 with e1; exact e1.symm
  subst hgg
  cases os with
  | nil =>
    have hm1 : m = 1 := by rw [hm]; rfl
    subst hm1
    obtain ⟨a, ha⟩ : ∃ a, A' = some a := by
      rw [← hif]
      split
      · exact ⟨_, rfl⟩
      · exact ⟨_, rfl⟩
    refine ⟨_, u, run_append_nothing u 61 61 ty 29 i Tryd.underlying61 hi _ 0 0 (Nat.le_refl _) _ ?_, .inr ⟨rfl, g', rfl, hgB, hlt⟩, World.grownBy.refl u _, .inl rfl⟩
    rw [ha]
    exact Src.ofSlice u Tryd.underlying61 a 0 _ [] (by simp) (fun j x hx => by simp at hx) (fun x hx => by cases hx)
  | cons h1 os =>
    have hm2 : m - 1 = (h1 :: os).length := by rw [hm]; simp
    have hm3 : 2 ≤ m := by rw [hm]; simp
    have hc1 : ¬ c = 1 := by omega
    rw [if_neg hc1] at hif
    subst hif
    have hlen := hown.1
    rw [scells_cons, List.length_append, List.length_map, hl0] at hlen
    have hnl : (scells (h1 :: os)).length = (m - 1) * 32 := by omega
    obtain ⟨v', u', hrun, h2, h3⟩ := run_append_arg_grows (P := Tryd.prog) u 61 ty 29 i _ 32 32 Tryd.underlying61 hi hz hs hby (zb_size 32) (by omega) ⟨g', 0, none⟩ 0 0 [] rfl (by simp) ⟨g', 32, none⟩ (m - 1) (c - 1) (scells (h1 :: os)) hnl
      (fun j x hx => by
        have hj := (List.getElem?_eq_some_iff.1 hx).1
        rw [Addr.add_mid]
        rw [World.ownsRow.cellAt hown (32 + j) (by rw [← hown.1, scells_cons, List.length_append, List.length_map, hl0]; omega), scells_cons, List.getElem?_append_right (by rw [List.length_map, hl0]; omega), List.length_map, hl0, show 32 + j - 32 = j by omega]
        exact hx) (by omega) (by unfold maxLen; omega) (by omega)
    rw [Nat.zero_add, List.nil_append] at h2
    obtain ⟨k, ck, ek, hk1, hk2⟩ := h2.form (by omega)
    refine ⟨v', u', hrun, .inl ?_, h3, .inr ⟨k, by rw [ek]; rfl, hk1, hk2⟩⟩
    rw [← hm2]
    refine ⟨h2.1, ?_⟩
    rcases h2.2 with h | ⟨q, cap, cur, q1, q2, q3⟩
    · exact .inl h
    · exact .inr ⟨q, cap, cur, q1, by omega, q3⟩

/-- append as a run, at an operation of a region that draws. -/
theorem step_append_run {ops : Array Oper} {o : Oper} {a : Act} {w w' : World} {K : Act → World → Prop} {Q : Exit → Act → World → Prop} {F : Prop} {v u v' : Value} (hgd : o.guard = none) (s x : Operand) (t : TypeId)
    (ho : o.op = .call { callee := .builtin .append, args := #[s, x], argTypes := #[t, t] }) (hs : a.eval s = v) (hx : a.eval x = u) (hrun : (Builtin.append_ #[t, t] o.type #[v, u]).run Tryd.prog w = .ok v' w') (h : K (a.put o.dst v') w') :
    if Region.wanted o (yielded ops a.tmps) = true then Oper.wp Tryd.prog o a w K Q else F := by
  have hw : Region.wanted o (yielded ops a.tmps) = true := by simp [Region.wanted, hgd]
  rw [if_pos hw]
  unfold Oper.wp execOp
  simp only [ho, resolve, invoke, builtin, Sem.run_bind, Sem.run_pure, Result.andThen_ok, List.map_toArray, List.map_cons, List.map_nil, hs, hx, hrun]
  exact h

def DropPost (w : World) (B cb pb H room : Nat) (ts : List T) (hs : List (List UInt8 × Value)) (v : Value) (h0 : List UInt8) (os : List (List UInt8)) (e : Ending) (w' : World) : Prop :=
  e = .returned undef ∧ ∃ v', CAt w' B cb pb H room ts (dropK h0 hs) v' os ∧ Fc cb H v.ownBlock w w' ∧ RNew w v.ownBlock v'.ownBlock
set_option maxRecDepth 100000 in
theorem cache_drop (B cb pb H room : Nat) (ts : List T) (hs : List (List UInt8 × Value)) (v : Value) (h0 : List UInt8) (os : List (List UInt8)) (w : World) (hc : CAt w B cb pb H room ts hs v (h0 :: os)) (hroom : room ≤ 4096) :
    Calls Tryd.prog 91 #[.pointer (some ⟨cb, 0, none⟩), .int .i64 0] w (DropPost w B cb pb H room ts hs v h0 os) := by
  have hc0 := hc
  obtain ⟨hW, hM, hR, _, _, hne, hrcb, hrh, _, _, h32, hperm, hfew, _⟩ := hc0
  have hown : w.ownsRow B 29 32 v (h0 :: os).length (scells (h0 :: os)) := by
    rcases hR with h | ⟨h, _⟩
    · exact h
    · cases h
  obtain ⟨g, c, rfl, hgB, hlt⟩ := hown.form (by simp)
  have hnc : (h0 :: os).length ≤ c := by
    obtain ⟨A0, c0, e0, h1, _⟩ := own_form hown
    injection e0 with _ _ e0
    subst e0
    exact h1
  have hl0 : h0.length = 32 := h32 h0 (by simp)
  have c2 := hW.at_ (i := 2) rfl
  have c3 := hW.at_ (i := 3) rfl
  have hpre : scells (h0 :: os) = h0.map V8 ++ scells os := scells_cons _ _
  have hrg : w.rangeAt g 0 (h0.map V8) := fun j u hu => by
    have hj := (List.getElem?_eq_some_iff.1 hu).1
    rw [Nat.zero_add, World.ownsRow.cellAt hown j (by rw [← hown.1, hpre, List.length_append]; omega), hpre, List.getElem?_append_left hj]
    exact hu
  obtain ⟨u0, hu0⟩ : ∃ u0, MAt.look hs h0 = some u0 := by
    cases hq : MAt.look hs h0 with
    | some u => exact ⟨u, rfl⟩
    | none => exact absurd (hperm.symm.subset (by simp)) ((look_none_iff hs h0).1 hq)
  obtain ⟨m, hm⟩ : ∃ m, m = (h0 :: os).length := ⟨_, rfl⟩
  have hm1 : 1 ≤ m ∧ m ≤ 4096 := by rw [hm]; simp at hfew ⊢; omega
  rw [← hm] at c3 hnc hown ⊢
  have hgcb : g ≠ cb := fun e => hrcb (by rw [e]; rfl)
  have hgh : g ≠ H := fun e => hrh (by rw [e]; rfl)
  have HC := Lib.hid hc
  have HM := Lib.hid hm
  have HOWN := Lib.hid hown
  have HR := Lib.hid hgB
  clear hc hW hM hR h32 hfew hown hm hrcb hrh hperm hpre hgB
  have hpos : 0 < m := hm1.1
  go_enter Tryd.func91, Tryd.ntmps91
  go_upto_region 0 with (fail)
  go_still_tail 11, (by kernel_rfl)
  refine Sh.wpStill_load_mid rfl 29 (.tmp 13) rfl g 0 ?_ (h0.map V8) (.array 32 5) hrg Tryd.underlying29 rfl (by rw [List.length_map, hl0]; exact info49) ?_
  · rfl
  go_simp
  refine wpStill_nil ?_
  clear hrg
  change wpList _ _ _ _ _ w.drew
  have hMd : MAt w.drew H hs := HC.out.mat
  obtain ⟨w1, hdel, hM1, hk1, hs1, ho1, ht1, hp1⟩ := delete_there hMd h0 hl0 hu0 0
  have hdel' : (Builtin.delete_ #[94, 29] 0 #[.map (some H), .agg (h0.map V8).toArray]).run Tryd.prog w.drew = .ok (.tuple #[]) w1 := hdel
  clear hdel
  have hk1' : ∀ k, k ≠ H → w1.heap[k]? = w.heap[k]? := hk1
  have hs1' : w1.heap.size = w.heap.size := hs1
  have hW1 : Whole w1 cb 122 #[.pointer (some ⟨pb, 0, none⟩), .int .i64 room, .map (some H), .slice (some ⟨g, 0, none⟩) m c] := by
    have h := HC.out.whole
    rw [← HM.out] at h
    exact (hk1' cb hne).trans h
  have hO1 : w1.ownsRow B 29 32 (.slice (some ⟨g, 0, none⟩) m c) m (scells (h0 :: os)) := HOWN.out.kept (row := some H) ⟨ho1, ht1, hp1, by rw [hs1]; exact Nat.le_refl _, fun i hi hne => hk1' i (fun e => hne (by rw [e]))⟩ (.inr fun e => hgh (by injection e))
  have HF1 : Hid (Fc cb H (some g) w w1) := Lib.hid ⟨ho1, ht1, hp1, by rw [hs1']; exact Nat.le_refl _, fun k hk _ h2 _ => hk1' k h2⟩
  have hc3 := hW1.at_ (i := 3) rfl
  have HM1 := Lib.hid hM1
  have HO1 := Lib.hid hO1
  have HW1 := Lib.hid hW1
  have HS1 := Lib.hid hs1'
  clear hM1 hk1 hk1' hs1 hs1' ho1 ht1 hp1 hMd hu0 c2 c3 hW1 hO1
  go_upto_region 1 with (fail)
  clear hdel'
  obtain ⟨A', hif⟩ : ∃ A', (if c = 1 then (some ⟨g, 0, none⟩ : Option Addr) else some ⟨g, 32, none⟩) = A' := ⟨_, rfl⟩
  have hc1 : 1 ≤ c := by omega
  have hm2 : (1 : Int) ≤ (m : Int) := by omega
  have hw1 : IntKind.i64.wrap 1 = 1 := rfl
  have hS0 : w1.drew.cell? ⟨cb, 3, none⟩ = some (.slice (some ⟨g, 0, none⟩) m c) := hc3
  clear hc3
  refine wp_region_late (S := fun u => u.cell? ⟨cb, 3, none⟩ = some (.slice (some ⟨g, 0, none⟩) m c)) (late := (· == 18)) (by kernel_rfl) ?_
  refine wpLate_take (i := 0) (oi := { dst := some 15, op := Op.move (Operand.tmp 0), type := 64, pos := "cache.go:127", after := #[], guard := none }) (v := ?_) rfl (by kernel_rfl) (by kernel_rfl) (by kernel_rfl) (by kernel_rfl) (fun _ _ _ h => h) (Or.inl ⟨by rfl, ?_⟩) (by assumption) ?_
  rotate_left
  · first | (intro w hSw; (try dsimp only at hSw); go_simp; done) | (intro w hSw; (try dsimp only at hSw); go_simp; with_reducible rfl)
  simp only [Act.put, List.setIfInBounds_toArray, List.set_cons_zero, List.set_cons_succ]
  refine wpLate_take (i := 1) (oi := { dst := some 16, op := Op.move (Operand.tmp 0), type := 64, pos := "cache.go:127", after := #[], guard := none }) (v := ?_) rfl (by kernel_rfl) (by kernel_rfl) (by kernel_rfl) (by kernel_rfl) (fun _ _ _ h => h) (Or.inl ⟨by rfl, ?_⟩) (by assumption) ?_
  rotate_left
  · first | (intro w hSw; (try dsimp only at hSw); go_simp; done) | (intro w hSw; (try dsimp only at hSw); go_simp; with_reducible rfl)
  simp only [Act.put, List.setIfInBounds_toArray, List.set_cons_zero, List.set_cons_succ]
  refine wpLate_take (i := 2) (oi := { dst := some 17, op := Op.nilCheck (Operand.tmp 16), type := 0, pos := "cache.go:127", after := #[{ on := 1, ground := Ground.data }], guard := none }) (v := ?_) rfl (by kernel_rfl) (by kernel_rfl) (by kernel_rfl) (by kernel_rfl) (fun _ _ _ h => h) (Or.inl ⟨by rfl, ?_⟩) (by assumption) ?_
  rotate_left
  · first | (intro w hSw; (try dsimp only at hSw); go_simp; done) | (intro w hSw; (try dsimp only at hSw); go_simp; with_reducible rfl)
  simp only [Act.put, List.setIfInBounds_toArray, List.set_cons_zero, List.set_cons_succ]
  refine wpLate_take (i := 3) (oi := { dst := some 18, op := Op.fieldAddr 122 (Operand.tmp 17) 3, type := 0, pos := "cache.go:127", after := #[{ on := 2, ground := Ground.data }], guard := none }) (v := ?_) rfl (by kernel_rfl) (by kernel_rfl) (by kernel_rfl) (by kernel_rfl) (fun _ _ _ h => h) (Or.inl ⟨by rfl, ?_⟩) (by assumption) ?_
  rotate_left
  · first | (intro w hSw; (try dsimp only at hSw); go_simp; done) | (intro w hSw; (try dsimp only at hSw); go_simp; with_reducible rfl)
  simp only [Act.put, List.setIfInBounds_toArray, List.set_cons_zero, List.set_cons_succ]
  refine wpLate_take (i := 4) (oi := { dst := some 19, op := Op.load 61 (Operand.tmp 18), type := 61, pos := "cache.go:127", after := #[{ on := 3, ground := Ground.data }], guard := none }) (v := ?_) rfl (by kernel_rfl) (by kernel_rfl) (by kernel_rfl) (by kernel_rfl) (fun _ _ _ h => h) (Or.inl ⟨by rfl, ?_⟩) (by assumption) ?_
  rotate_left
  · first | (intro w hSw; (try dsimp only at hSw); go_simp; done) | (intro w hSw; (try dsimp only at hSw); go_simp; with_reducible rfl)
  simp only [Act.put, List.setIfInBounds_toArray, List.set_cons_zero, List.set_cons_succ]
  refine wpLate_take (i := 5) (oi := { dst := some 20, op := Op.move (Operand.tmp 1), type := 3, pos := "cache.go:127", after := #[], guard := none }) (v := ?_) rfl (by kernel_rfl) (by kernel_rfl) (by kernel_rfl) (by kernel_rfl) (fun _ _ _ h => h) (Or.inl ⟨by rfl, ?_⟩) (by assumption) ?_
  rotate_left
  · first | (intro w hSw; (try dsimp only at hSw); go_simp; done) | (intro w hSw; (try dsimp only at hSw); go_simp; with_reducible rfl)
  simp only [Act.put, List.setIfInBounds_toArray, List.set_cons_zero, List.set_cons_succ]
  refine wpLate_take (i := 6) (oi := { dst := some 21, op := Op.move (Operand.tmp 1), type := 3, pos := "cache.go:127", after := #[], guard := none }) (v := ?_) rfl (by kernel_rfl) (by kernel_rfl) (by kernel_rfl) (by kernel_rfl) (fun _ _ _ h => h) (Or.inl ⟨by rfl, ?_⟩) (by assumption) ?_
  rotate_left
  · first | (intro w hSw; (try dsimp only at hSw); go_simp; done) | (intro w hSw; (try dsimp only at hSw); go_simp; with_reducible rfl)
  simp only [Act.put, List.setIfInBounds_toArray, List.set_cons_zero, List.set_cons_succ]
  refine wpLate_take (i := 7) (oi := { dst := some 22, op := Op.slice 61 (Operand.tmp 19) none (some (Operand.tmp 20)) (some (Operand.tmp 21)), type := 61, pos := "cache.go:127", after := #[{ on := 4, ground := Ground.data }, { on := 5, ground := Ground.data }, { on := 6, ground := Ground.data }], guard := none }) (v := ?_) rfl (by kernel_rfl) (by kernel_rfl) (by kernel_rfl) (by kernel_rfl) (fun _ _ _ h => h) (Or.inl ⟨by rfl, ?_⟩) (by assumption) ?_
  rotate_left
  · first | (intro w hSw; (try dsimp only at hSw); go_simp; done) | (intro w hSw; (try dsimp only at hSw); go_simp; with_reducible rfl)
  simp only [Act.put, List.setIfInBounds_toArray, List.set_cons_zero, List.set_cons_succ]
  refine wpLate_take (i := 8) (oi := { dst := some 23, op := Op.move (Operand.tmp 0), type := 64, pos := "cache.go:127", after := #[], guard := none }) (v := ?_) rfl (by kernel_rfl) (by kernel_rfl) (by kernel_rfl) (by kernel_rfl) (fun _ _ _ h => h) (Or.inl ⟨by rfl, ?_⟩) (by assumption) ?_
  rotate_left
  · first | (intro w hSw; (try dsimp only at hSw); go_simp; done) | (intro w hSw; (try dsimp only at hSw); go_simp; with_reducible rfl)
  simp only [Act.put, List.setIfInBounds_toArray, List.set_cons_zero, List.set_cons_succ]
  refine wpLate_take (i := 9) (oi := { dst := some 24, op := Op.nilCheck (Operand.tmp 23), type := 0, pos := "cache.go:127", after := #[{ on := 8, ground := Ground.data }], guard := none }) (v := ?_) rfl (by kernel_rfl) (by kernel_rfl) (by kernel_rfl) (by kernel_rfl) (fun _ _ _ h => h) (Or.inl ⟨by rfl, ?_⟩) (by assumption) ?_
  rotate_left
  · first | (intro w hSw; (try dsimp only at hSw); go_simp; done) | (intro w hSw; (try dsimp only at hSw); go_simp; with_reducible rfl)
  simp only [Act.put, List.setIfInBounds_toArray, List.set_cons_zero, List.set_cons_succ]
  refine wpLate_take (i := 10) (oi := { dst := some 25, op := Op.fieldAddr 122 (Operand.tmp 24) 3, type := 0, pos := "cache.go:127", after := #[{ on := 9, ground := Ground.data }], guard := none }) (v := ?_) rfl (by kernel_rfl) (by kernel_rfl) (by kernel_rfl) (by kernel_rfl) (fun _ _ _ h => h) (Or.inl ⟨by rfl, ?_⟩) (by assumption) ?_
  rotate_left
  · first | (intro w hSw; (try dsimp only at hSw); go_simp; done) | (intro w hSw; (try dsimp only at hSw); go_simp; with_reducible rfl)
  simp only [Act.put, List.setIfInBounds_toArray, List.set_cons_zero, List.set_cons_succ]
  refine wpLate_take (i := 11) (oi := { dst := some 26, op := Op.load 61 (Operand.tmp 25), type := 61, pos := "cache.go:127", after := #[{ on := 10, ground := Ground.data }], guard := none }) (v := ?_) rfl (by kernel_rfl) (by kernel_rfl) (by kernel_rfl) (by kernel_rfl) (fun _ _ _ h => h) (Or.inl ⟨by rfl, ?_⟩) (by assumption) ?_
  rotate_left
  · first | (intro w hSw; (try dsimp only at hSw); go_simp; done) | (intro w hSw; (try dsimp only at hSw); go_simp; with_reducible rfl)
  simp only [Act.put, List.setIfInBounds_toArray, List.set_cons_zero, List.set_cons_succ]
  refine wpLate_take (i := 12) (oi := { dst := some 27, op := Op.move (Operand.tmp 1), type := 3, pos := "cache.go:127", after := #[], guard := none }) (v := ?_) rfl (by kernel_rfl) (by kernel_rfl) (by kernel_rfl) (by kernel_rfl) (fun _ _ _ h => h) (Or.inl ⟨by rfl, ?_⟩) (by assumption) ?_
  rotate_left
  · first | (intro w hSw; (try dsimp only at hSw); go_simp; done) | (intro w hSw; (try dsimp only at hSw); go_simp; with_reducible rfl)
  simp only [Act.put, List.setIfInBounds_toArray, List.set_cons_zero, List.set_cons_succ]
  refine wpLate_take (i := 13) (oi := { dst := some 28, op := Op.binOp BinOp.add 3 (Operand.tmp 27) (Operand.const (Value.int IntKind.i64 1)) 3, type := 3, pos := "cache.go:127", after := #[{ on := 12, ground := Ground.data }], guard := none }) (v := ?_) rfl (by kernel_rfl) (by kernel_rfl) (by kernel_rfl) (by kernel_rfl) (fun _ _ _ h => h) (Or.inl ⟨by rfl, ?_⟩) (by assumption) ?_
  rotate_left
  · first | (intro w hSw; (try dsimp only at hSw); go_simp; done) | (intro w hSw; (try dsimp only at hSw); go_simp; with_reducible rfl)
  simp only [Act.put, List.setIfInBounds_toArray, List.set_cons_zero, List.set_cons_succ]
  refine wpLate_take (i := 14) (oi := { dst := some 29, op := Op.slice 61 (Operand.tmp 26) (some (Operand.tmp 28)) none none, type := 61, pos := "cache.go:127", after := #[{ on := 11, ground := Ground.data }, { on := 13, ground := Ground.data }], guard := none }) (v := ?_) rfl (by kernel_rfl) (by kernel_rfl) (by kernel_rfl) (by kernel_rfl) (fun _ _ _ h => h) (Or.inl ⟨by rfl, ?_⟩) (by assumption) ?_
  rotate_left
  · first | (intro w hSw; (try dsimp only at hSw); go_simp; done) | (intro w hSw; (try dsimp only at hSw); go_simp; with_reducible rfl)
  simp only [Act.put, List.setIfInBounds_toArray, List.set_cons_zero, List.set_cons_succ]
  have hO1 : w1.drew.ownsRow B 29 32 (.slice (some ⟨g, 0, none⟩) m c) m (scells (h0 :: os)) := HO1.out
  obtain ⟨v2, w2, hrun, hR2, hg2, hb2⟩ := append_rest hO1 HM.out hm1.2 hl0 hif 61
  have hs1 : w1.drew.heap.size = w.heap.size := HS1.out
  have hR2' := hR2
  obtain ⟨A2, c2, hv2, -, -⟩ := hR2'.form
  clear hR2'
  obtain ⟨n2, hn2⟩ : ∃ n2, n2 = os.length := ⟨_, rfl⟩
  rw [← hn2] at hv2
  clear hn2
  subst hv2
  have HW2 : Hid (Whole w2 cb 122 #[.pointer (some ⟨pb, 0, none⟩), .int .i64 room, .map (some H), .slice (some ⟨g, 0, none⟩) m c]) := Lib.hid ((hg2.block cb HW1.out.lt (by simp)).trans HW1.out)
  have HM2 : Hid (MAt w2 H (dropK h0 hs)) := Lib.hid (HM1.out.block (hg2.block H HM1.out.lt (by simp)))
  have HF2 : Hid (Fc cb H (some g) w w2) := Lib.hid (HF1.out.trans (r' := some g) ⟨hg2.os, hg2.tape, hg2.output, hg2.size, fun k hk _ _ _ => hg2.block k hk (by simp)⟩ (.inl rfl))
  have HR2 := Lib.hid hR2
  have HB2 : Hid ((Value.slice A2 n2 c2).ownBlock = some g ∨ ∃ k, (Value.slice A2 n2 c2).ownBlock = some k ∧ w.heap.size ≤ k ∧ k < w2.heap.size) := Lib.hid (by rw [hs1] at hb2; exact hb2)
  clear hO1 hR2 hg2 hb2 hs1 HW1 HM1 HF1 HO1 HS1
  refine wpLate_ready (rs := [15]) (by kernel_rfl) (by simp) ?_
  refine AllLate.cons (o := { dst := some 30, op := Op.call { callee := Callee.builtin Builtin.append, args := #[Operand.tmp 22, Operand.tmp 29], argTypes := #[61, 61] }, type := 61, pos := "cache.go:127", after := #[{ on := 7, ground := Ground.data }, { on := 14, ground := Ground.data }], guard := none }) rfl (fun K hK => ?_) AllLate.nil
  refine step_append_run rfl (.tmp 22) (.tmp 29) 61 rfl rfl rfl hrun ?_
  have hd2 := HW2.out.at_ (i := 3) rfl
  refine hK.out _ _ (fun _ => hd2) ?_
  clear hK K hrun hS0
  simp only [Act.put, List.setIfInBounds_toArray, List.set_cons_zero, List.set_cons_succ]
  refine wpLate_ready (rs := [16]) (by kernel_rfl) (by simp) ?_
  refine AllLate.cons rfl (fun K hK => ?_) AllLate.nil
  go_simp
  refine hK.out _ _ (fun _ => hd2) ?_
  clear hK K
  refine wpLate_ready (rs := [17]) (by kernel_rfl) (by simp) ?_
  refine AllLate.cons rfl (fun K hK => ?_) AllLate.nil
  go_simp
  refine hK.out _ _ (fun _ => hd2) ?_
  clear hK K
  have hS0 := hd2
  have f0 := HW2.out.free 3
  refine wpLate_ready (rs := [18]) (by kernel_rfl) (by simp) ?_
  refine AllLate.cons rfl (fun K hK => ?_) AllLate.nil
  go_simp
  refine hK.out _ _ (fun h => absurd h (by decide)) ?_
  clear hK K f0 hS0 hd2
  have hlt2 := HW2.out.lt
  have HW3 := Lib.hid (HW2.out.set 3 (.slice A2 n2 c2))
  have hk3 : ∀ k, k ≠ cb → (w2.setCell ⟨cb, 3, none⟩ (.slice A2 n2 c2)).heap[k]? = w2.heap[k]? := fun k hk => Below.heap_setCell w2 ⟨cb, 3, none⟩ (.slice A2 n2 c2) k hk
  have hs3 : (w2.setCell ⟨cb, 3, none⟩ (.slice A2 n2 c2)).heap.size = w2.heap.size := World.size_setCell _ _ _
  have hF3 : Fc cb H (some g) w2 (w2.setCell ⟨cb, 3, none⟩ (.slice A2 n2 c2)) := ⟨rfl, rfl, rfl, by rw [hs3]; exact Nat.le_refl _, fun k hk h1 _ _ => hk3 k h1⟩
  have HF3 := Lib.hid (HF2.out.trans hF3 (.inl rfl))
  have HK3 := Lib.hid (And.intro hk3 hs3)
  clear hk3 hs3 hF3
  generalize w2.setCell ⟨cb, 3, none⟩ (.slice A2 n2 c2) = w3 at *
  refine wpLate_done (by kernel_rfl) ?_ _
  go_wp2_with fail
  refine bodyPost_end (results_none rfl _ _ _) rfl ?_
  obtain ⟨hk3, hs3⟩ := HK3.out
  have hC := HC.out
  rw [← HM.out] at hC
  have hnew : RNew w (some g) (Value.slice A2 n2 c2).ownBlock := by
    rcases HB2.out with h | ⟨k, h1, h2, _⟩
    · exact .inl h
    · exact .inr ⟨k, h1, h2⟩
  have hcbs := HC.out.whole.lt
  have hHs := HC.out.mat.lt
  have hbl : ∀ k, (Value.slice A2 n2 c2).ownBlock = some k → k ≠ cb ∧ k ≠ H ∧ B ≤ k ∧ k < w3.heap.size := fun k hk => by
    have hs2 := HF2.out.size
    rcases HB2.out with h | ⟨k', h1, h2, h3⟩
    · rw [h] at hk
      injection hk with hk
      subst hk
      exact ⟨hgcb, hgh, HR.out, by omega⟩
    · rw [h1] at hk
      injection hk with hk
      subst hk
      have := HC.out.cb_ge
      exact ⟨by omega, by omega, by omega, by omega⟩
  refine ⟨rfl, .slice A2 n2 c2, ⟨HW3.out, HM2.out.block (hk3 H (Ne.symm hC.ne)), ?_, hC.cb_ge, hC.h_ge, hC.ne, fun h => (hbl cb h).1 rfl, fun h => (hbl H h).2.1 rfl, fun k hk => (hbl k hk).2.2, (List.nodup_cons.1 hC.nodup).2, fun h hh => hC.len32 h (by simp [hh]), ?_, ?_, ?_⟩, HF3.out, hnew⟩
  · rcases HR2.out with h | ⟨h1, k, h2, h3, h4⟩
    · exact .inl (h.kept (row := some cb) ⟨HF3.out.os.trans HF2.out.os.symm, HF3.out.tape.trans HF2.out.tape.symm, HF3.out.output.trans HF2.out.output.symm, by rw [hs3]; exact Nat.le_refl _, fun i hi hne => hk3 i (fun e => hne (by rw [e]))⟩ (.inr fun e => (hbl cb e).1 rfl))
    · exact .inr ⟨h1, k, h2, h3, by rw [hs3]; exact h4⟩
  · rw [drop_keys]
    have := hC.perm.erase h0
    rwa [List.erase_cons_head] at this
  · have := hC.few
    simp at this
    omega
  · intro p hp
    obtain ⟨s, h1, h2, h3⟩ := hC.vals p (List.mem_of_mem_eraseP hp)
    exact ⟨s, h1, h2, h3.keep HF3.out hnew⟩
end Go.Proofs.YtolkpjbbfopmnaaDoor
namespace Go.Proofs.YtolkpjbbfopmnaaDoor
open Go.RowKit
open Tr

set_option maxRecDepth 100000 in
/-- A sum more in the row of a cache. -/
theorem append_sum {u : World} {B k : Nat} {v : Value} {os : List (List UInt8)} {h : List UInt8} (hown : ORow u B v os) (hk : Whole u k 29 (Sh.bcells h)) (hl : h.length = 32) (hn : os.length ≤ 4096) (hB : B ≤ u.heap.size) (ty : TypeId) :
    ∃ v' u', (Builtin.append_ #[61, 61] ty #[v, .slice (some ⟨k, 0, none⟩) 1 1]).run Tryd.prog u = .ok v' u' ∧ ORow u' B v' (os ++ [h]) ∧ u.grownBy u' v.ownBlock ∧ (v'.ownBlock = v.ownBlock ∨ ∃ j, v'.ownBlock = some j ∧ u.heap.size ≤ j ∧ j < u'.heap.size) := by
  have hr : RdV u u.heap.size 32 (some ⟨k, 0, none⟩) 1 (h.map V8) :=
    ⟨by rw [List.length_map, hl], fun _ => ⟨_, _, rfl, hk.lt, fun j x hx => hk.at_ (by rw [Nat.zero_add]; show (h.map V8).toArray[j]? = some x; rw [List.getElem?_toArray]; exact hx)⟩⟩
  have hsn : scells (os ++ [h]) = scells os ++ h.map V8 := scells_snoc os h
  rcases hown with ho | ⟨rfl, g, rfl, hg1, hg2⟩
  · obtain ⟨v', u', hrun, k2, k3, k4⟩ := run_append_rd u B 61 ty 29 _ 32 32 Tryd.underlying61 info49f (zb_size 32) (by omega) v os.length (scells os) ho _ _ 1 1 _ hr (one_bytes _) (by unfold maxLen; omega) (by omega) hB
    refine ⟨v', u', hrun, .inl ?_, k3, ?_⟩
    · rw [hsn, List.length_append]; exact k2
    · rcases k4 with k4 | k4
      · exact .inl k4
      · obtain ⟨j, cj, ej, hj1, hj2⟩ := k2.form (by omega)
        rw [ej] at k4
        have k5 : some j = some u.heap.size := k4
        injection k5 with k5
        exact .inr ⟨j, by rw [ej]; rfl, by omega, hj2⟩
  · obtain ⟨i, hi, hz, hs, hby⟩ := info_of info49f
    obtain ⟨v', u', hrun, h2, h3⟩ := run_append_arg_grows (P := Tryd.prog) u 61 ty 29 i _ 32 32 Tryd.underlying61 hi hz hs hby (zb_size 32) (by omega) ⟨g, 0, none⟩ 0 0 [] rfl (by simp) ⟨k, 0, none⟩ 1 1 (h.map V8) (by rw [List.length_map, hl])
      (fun j x hx => by
        rw [Addr.add_mid]
        obtain ⟨b', o', e, _, hc⟩ := hr.2 (by omega)
        injection e with e
        injection e with e1 e2
        subst e1 e2
        exact hc j x hx) (by omega) (by unfold maxLen; omega) (by omega)
    obtain ⟨j, cj, ej, hj1, hj2⟩ := h2.form (by omega)
    refine ⟨v', u', hrun, .inl ?_, ⟨h3.os, h3.tape, h3.output, h3.size, fun q hq _ => h3.block q hq (by simp)⟩, .inr ⟨j, by rw [ej]; rfl, hj1, hj2⟩⟩
    rw [hsn]
    rw [List.nil_append] at h2
    refine ⟨h2.1, ?_⟩
    rcases h2.2 with h | ⟨q, cap, cur, q1, q2, q3⟩
    · exact .inl h
    · exact .inr ⟨q, cap, cur, q1, by omega, q3⟩

theorem ORow.keepBlock {w w' : World} {B : Nat} {v : Value} {os : List (List UInt8)} (h : ORow w B v os) (hk : ∀ g, v.ownBlock = some g → w'.heap[g]? = w.heap[g]?) (hs : w.heap.size ≤ w'.heap.size) : ORow w' B v os := by
  rcases h with h | ⟨h1, g, h2, h3, h4⟩
  · refine .inl ⟨h.1, ?_⟩
    rcases h.2 with h2 | ⟨g, cap, cur, rfl, h3, h4, h5⟩
    · exact .inl h2
    · exact .inr ⟨g, cap, cur, rfl, h3, (hk g rfl).trans h4, h5⟩
  · exact .inr ⟨h1, g, h2, h3, by omega⟩
theorem acells_inj {kv vv kv' vv' : Value} {h h' : Int} {z z' : Nat} {l l' r r' : List UInt8} (e : Value.agg (acells kv vv h z l r).toArray = Value.agg (acells kv' vv' h' z' l' r').toArray) : kv = kv' ∧ vv = vv' := by
  injection e with e
  have := congrArg Array.toList e
  simp [acells] at this
  exact ⟨this.1, this.2.1⟩
/-- A node's bytes don't lie in a block. -/
def Off (g : Nat) (u : Value) : Prop :=
  ∀ A n c A' n' c' h z l r, u = .agg (acells (.slice A n c) (.slice A' n' c') h z l r).toArray → (0 < n → ∀ b o, A = some ⟨b, o, none⟩ → b ≠ g) ∧ (0 < n' → ∀ b o, A' = some ⟨b, o, none⟩ → b ≠ g)
theorem off_of {g n c n' c' z : Nat} {A A' : Option Addr} {h : Int} {l r : List UInt8} (h1 : 0 < n → ∀ b o, A = some ⟨b, o, none⟩ → b ≠ g) (h2 : 0 < n' → ∀ b o, A' = some ⟨b, o, none⟩ → b ≠ g) : Off g (.agg (acells (.slice A n c) (.slice A' n' c') h z l r).toArray) := by
  intro B m d B' m' d' _ _ _ _ e
  obtain ⟨e1, e2⟩ := acells_inj e
  injection e1 with a1 a2 _
  injection e2 with b1 b2 _
  subst a1 a2 b1 b2
  exact ⟨h1, h2⟩
theorem HV.off {w : World} {cb H g : Nat} {r : Option Nat} {s : T} {u : Value} (h : HV w cb H r s u) (hg : w.heap.size ≤ g) : Off g u := by
  obtain ⟨A, n, c, A', n', c', rfl, h1, _, h3, _⟩ := h
  refine off_of (fun hn b o e => ?_) (fun hn b o e => ?_)
  · obtain ⟨b', o', e', hb, _⟩ := h1.1.2 hn
    rw [e] at e'
    injection e' with e'
    injection e' with e' _
    omega
  · obtain ⟨b', o', e', hb, _⟩ := h3.1.2 hn
    rw [e] at e'
    injection e' with e'
    injection e' with e' _
    omega
theorem BF.other {w w' : World} {cb H n g : Nat} {r : Option Nat} {A : Option Addr} {bs : List UInt8} (h : BF w cb H r A n bs) (ho : 0 < n → ∀ b o, A = some ⟨b, o, none⟩ → b ≠ g) (hk : ∀ k, k ≠ g → w'.heap[k]? = w.heap[k]?) (hs : w.heap.size ≤ w'.heap.size) : BF w' cb H r A n bs :=
  ⟨⟨h.1.1, fun hn => by
    obtain ⟨b, o, e, hb, hc⟩ := h.1.2 hn
    exact ⟨b, o, e, Nat.lt_of_lt_of_le hb hs, fun j u hu => (cell_keep (hk b (ho hn b o e)) _).trans (hc j u hu)⟩⟩, h.2⟩
theorem HV.other {w w' : World} {cb H g : Nat} {r : Option Nat} {s : T} {u : Value} (h : HV w cb H r s u) (ho : Off g u) (hk : ∀ k, k ≠ g → w'.heap[k]? = w.heap[k]?) (hs : w.heap.size ≤ w'.heap.size) : HV w' cb H r s u := by
  obtain ⟨A, n, c, A', n', c', rfl, h1, h2, h3, h4⟩ := h
  obtain ⟨o1, o2⟩ := ho _ _ _ _ _ _ _ _ _ _ rfl
  exact ⟨A, n, c, A', n', c', rfl, h1.other o1 hk hs, h2, h3.other o2 hk hs, h4⟩
/-- What take and read return: the node; it is the youngest. -/
def TakePost (w : World) (B cb pb H room : Nat) (ts : List T) (hs : List (List UInt8 × Value)) (r : Option Nat) (s : T) (e : Ending) (w' : World) : Prop :=
  ∃ u hs' v' os', e = .returned (.tuple #[u, .int .i64 0]) ∧ CAt w' B cb pb H room ts hs' v' (os' ++ [s.sum]) ∧ HV w' cb H v'.ownBlock s u ∧ Fc cb H r w w' ∧ RNew w r v'.ownBlock ∧
    ∀ g, g < w.heap.size → (∀ p ∈ hs, Off g p.2) → Off g u ∧ ∀ p ∈ hs', Off g p.2
set_option maxRecDepth 100000 in
set_option maxHeartbeats 1000000 in
theorem cache_take (B cb pb H room : Nat) (ts : List T) (hs : List (List UInt8 × Value)) (v : Value) (os : List (List UInt8)) (s : T) (hs0 : s ∈ ts) (A : Option Addr) (n c : Nat) (bs : List UInt8) (w : World) (hc : CAt w B cb pb H room ts hs v os) (hroom : room ≤ 4096) (hr1 : 1 ≤ room)
    (hno : s.sum ∉ os) (hr : Tl.Rd w w.heap.size A n bs) (hnc : n ≤ c) (hn : n ≤ 1000000) (hdec : Tl.Tlv.dec bs = (0, ndT s)) :
    Calls Tryd.prog 81 #[.pointer (some ⟨cb, 0, none⟩), .agg (Sh.bcells s.sum), .slice A n c] w (TakePost w B cb pb H room ts hs v.ownBlock s) := by
  have hz27 := Tl.zero27
  obtain ⟨h, hh⟩ : ∃ h, h = s.sum := ⟨_, rfl⟩
  have hl : h.length = 32 := by rw [hh]; exact sum32 s
  rw [← hh] at hno ⊢
  have hb0 : Below w.heap.size w ((w.alloc (.cells (Sh.bcells h) 29)).alloc (.cells Tl.z27 47)) := ((Below.refl _ _).alloc (Nat.le_refl _) _).alloc (by simp) _
  have hw4 := (Whole.made w 29 (Sh.bcells h)).alloc (.cells Tl.z27 47)
  have hw6 := Whole.made (w.alloc (.cells (Sh.bcells h) 29)) 47 Tl.z27
  have hsz : ((w.alloc (.cells (Sh.bcells h) 29)).alloc (.cells Tl.z27 47)).heap.size = w.heap.size + 2 := by simp
  rw [size_alloc] at hw6
  have HD := Lib.hid (Tl.decode_new A n c bs ((w.alloc (.cells (Sh.bcells h) 29)).alloc (.cells Tl.z27 47)) ((hr.below hb0 (Nat.le_refl _)).more hb0.size) hnc hn)
  have HC := Lib.hid hc
  have HH := Lib.hid (And.intro hh (And.intro hno hdec))
  have HB0 := Lib.hid hb0
  have HW4 := Lib.hid hw4
  have HW6 := Lib.hid hw6
  clear hc hh hno hdec hb0 hw4 hw6 hr hnc hn
  go_enter Tryd.func81, Tryd.ntmps81
  go_upto_region 1 with (fail)
  generalize (w.alloc (.cells (Sh.bcells h) 29)).alloc (.cells Tl.z27 47) = w1 at *
  clear hz27
  go_wp2_with fail
  refine HD.out.mono ?_
  rintro e w2 ⟨A1, n1, c1, A2, n2, c2, rfl, hN, hG, hb2⟩
  have hX : (Tl.ndc A1 n1 c1 A2 n2 c2 (Tl.Tlv.dec bs).2).toArray = (acells (.slice A1 n1 c1) (.slice A2 n2 c2) s.h s.n s.lsum s.rsum).toArray := by rw [HH.out.2.2]; rfl
  have hcode : ((Tl.Tlv.dec bs).1 : Int) = 0 := by rw [HH.out.2.2]; rfl
  have hC2 := HC.out.below (HB0.out.trans (hb2.mono (by omega)))
  have hv2 : HV w2 cb H v.ownBlock s (.agg (acells (.slice A1 n1 c1) (.slice A2 n2 c2) s.h s.n s.lsum s.rsum).toArray) := by
    have hfar : ∀ b, w1.heap.size < b → b ≠ cb ∧ b ≠ H ∧ v.ownBlock ≠ some b := fun b hb => by
      have h1 := HC.out.whole.lt
      have h2 := HC.out.mat.lt
      have h3 := HC.out.rB b
      exact ⟨by omega, by omega, fun e => by have := (h3 e).2; omega⟩
    rw [HH.out.2.2] at hN
    exact ⟨A1, n1, c1, A2, n2, c2, rfl, ⟨hN.key, fun h b o e => hfar b (hG.1 h b o e)⟩, hN.knc, ⟨hN.val, fun h b o e => hfar b (hG.2 h b o e)⟩, hN.vnc⟩
  have hOX : ∀ g, g ≤ w.heap.size + 1 → Off g (.agg (acells (.slice A1 n1 c1) (.slice A2 n2 c2) s.h s.n s.lsum s.rsum).toArray) := fun g hg => off_of (fun h b o e => by have := hG.1 h b o e; omega) (fun h b o e => by have := hG.2 h b o e; omega)
  have HOX := Lib.hid hOX
  have HOFF : Hid (∀ p ∈ hs, Off (w.heap.size + 1) p.2) := Lib.hid (fun p hp => by
    obtain ⟨s1, _, _, h3⟩ := HC.out.vals p hp
    exact h3.off (by omega))
  clear hOX
  rw [hcode, hX]
  have hX68 : (acells (.slice A1 n1 c1) (.slice A2 n2 c2) s.h s.n s.lsum s.rsum).toArray.size = 68 := by rw [List.size_toArray]; exact acells_len _ _ _ _ _ _ (lsum32 s) (rsum32 s)
  have hX1 : (acells (.slice A1 n1 c1) (.slice A2 n2 c2) s.h s.n s.lsum s.rsum).toArray.all (·.oneCell') = true := Tl.acells_one _ _ _ _ _ _ _ _ _ _
  have HC2 := Lib.hid hC2
  have HV2 := Lib.hid hv2
  have HB2 := Lib.hid (HB0.out.trans (hb2.mono (by omega)))
  have HW42 := Lib.hid (HW4.out.below hb2 HW4.out.lt)
  have HW62 := Lib.hid (HW6.out.below hb2 HW6.out.lt)
  have hs2 : w.heap.size + 2 ≤ w2.heap.size := by have := hb2.size; omega
  clear hX hcode hC2 hv2 hb2 hN hG HD HW4 HW6 HB0 hsz
  generalize (acells (.slice A1 n1 c1) (.slice A2 n2 c2) s.h s.n s.lsum s.rsum).toArray = X at *
  have hz27 := Tl.zero27
  simp only []
  iterate 13 go_step
  clear hz27
  have hXi : (Tryd.prog.info? 47).map (·.size) = some X.size := by rw [hX68]; exact info64
  refine Tl.wpList_store_made rfl 47 (.tmp 8) (.tmp 13) rfl Tl.z27 X rfl rfl hXi (by rw [hX68]; exact Tl.z27_size) hX1 ?_
  have hb3 : Below w2.heap.size w2 (w2.alloc (.cells X 47)) := (Below.refl _ _).alloc (Nat.le_refl _) _
  have hw8 := Whole.made w2 47 X
  have hC3 := HC2.out.below hb3
  have HV3 := Lib.hid (HV2.out.keep (Fc.of_below hb3) (.inl rfl))
  have HB3 := Lib.hid (HB2.out.trans (hb3.mono (by omega)))
  have HW43 := Lib.hid (HW42.out.below hb3 HW42.out.lt)
  have HW63 := Lib.hid (HW62.out.below hb3 HW62.out.lt)
  have HW83 := Lib.hid hw8
  have HG8 : Hid (w.heap.size + 2 ≤ w2.heap.size) := Lib.hid hs2
  have HX := Lib.hid (And.intro hX68 (And.intro hX1 hXi))
  have HC3 := Lib.hid hC3
  clear hX68 hX1 hXi hb3 hw8 HC2 HV2 HB2 HW42 HW62 hs2
  generalize w2.alloc (.cells X 47) = w3 at *
  generalize w2.heap.size = g8 at *
  have hlen := hC3.few
  have hrow := hC3.row
  obtain ⟨Ar, cr, hv, -, -⟩ := hrow.form
  clear hrow
  have c1 : w3.cell? ⟨cb, 1, none⟩ = some (.int .i64 room) := hC3.whole.at_ rfl
  have c3 : w3.cell? ⟨cb, 3, none⟩ = some v := hC3.whole.at_ rfl
  rw [hv] at c3
  have HM : Hid (∃ q, q = os.length) := Lib.hid ⟨_, rfl⟩
  obtain ⟨m, hm⟩ := HM.out
  rw [← hm] at c3
  have HVV := Lib.hid hv
  have HMM := Lib.hid hm
  clear hv hm hC3 HM
  by_cases hfull : room ≤ m
  · have hfI : (room : Int) ≤ (m : Int) := by omega
    go_upto_region 4 with (fail)
    go_quiet (fail)
    have hbq : Below w3.heap.size w3 (w3.drewN nq) := ⟨rfl, rfl, rfl, Nat.le_refl _, fun _ _ => rfl⟩
    have HC4 := Lib.hid (HC3.out.below hbq)
    have HV4 := Lib.hid (HV3.out.keep (Fc.of_below hbq) (.inl rfl))
    have HB4 := Lib.hid (HB3.out.trans (hbq.mono (by have := HB3.out.size; omega)))
    have HW44 := Lib.hid (HW43.out.below hbq HW43.out.lt)
    have HW64 := Lib.hid (HW63.out.below hbq HW63.out.lt)
    have HW84 := Lib.hid (HW83.out.below hbq HW83.out.lt)
    clear hbq HC3 HV3 HB3 HW43 HW63 HW83 c1 c3 hfI
    generalize w3.drewN nq = w4 at *
    obtain ⟨h0, ot, hos⟩ : ∃ h0 ot, os = h0 :: ot := by
      cases os with
      | nil => have := HMM.out; simp at this; omega
      | cons h0 ot => exact ⟨h0, ot, rfl⟩
    have hDR := HC4.out
    rw [hos] at hDR
    have HDR := Lib.hid (cache_drop B cb pb H room ts hs v h0 ot w4 hDR hroom)
    have HOS := Lib.hid hos
    clear hDR hos
    go_wp2_with fail
    refine HDR.out.mono ?_
    rintro e w5 ⟨rfl, v5, hC5, hF5, hN5⟩
    have HC5 := Lib.hid hC5
    have HF5 : Hid (Fc cb H v.ownBlock w w5) := Lib.hid ((Fc.of_below HB4.out).trans hF5 (.inl rfl))
    have HN5 : Hid (RNew w v.ownBlock v5.ownBlock) := Lib.hid (by
      have := HB4.out.size
      rcases hN5 with h | ⟨g, h1, h2⟩
      · exact .inl h
      · exact .inr ⟨g, h1, by omega⟩)
    have HV5 := Lib.hid (HV4.out.keep hF5 hN5)
    have hout : ∀ g, w.heap.size ≤ g → g ≠ cb ∧ g ≠ H ∧ v.ownBlock ≠ some g := fun g hg => by
      have h1 := HC.out.whole.lt
      have h2 := HC.out.mat.lt
      have h3 := HC.out.rB g
      exact ⟨by omega, by omega, fun e => by have := (h3 e).2; omega⟩
    have hkp : ∀ (g : Nat) (t : TypeId) (cs : Array Value), w.heap.size ≤ g → Whole w4 g t cs → Whole w5 g t cs := fun g t cs hg hw => by
      obtain ⟨h1, h2, h3⟩ := hout g hg
      exact (hF5.block g hw.lt h1 h2 h3).trans hw
    have HW45 := Lib.hid (hkp _ _ _ (Nat.le_refl _) HW44.out)
    have HW65 := Lib.hid (hkp _ _ _ (by omega) HW64.out)
    have HW85 := Lib.hid (hkp _ _ _ (by have := HG8.out; omega) HW84.out)
    have HL5 : Hid (ot.length < room) := Lib.hid (by have := hlen; rw [HOS.out] at this; simp at this; omega)
    have HNO5 : Hid (h ∉ ot) := Lib.hid (fun hm => HH.out.2.1 (by rw [HOS.out]; simp [hm]))
    have HNR5 : Hid (v5.ownBlock ≠ some w.heap.size ∧ v5.ownBlock ≠ some (w.heap.size + 1) ∧ v5.ownBlock ≠ some g8) := Lib.hid (by
      have l1 := HW44.out.lt
      have l2 := HW64.out.lt
      have l3 := HW84.out.lt
      have l4 := HG8.out
      rcases hN5 with h | ⟨g, h1, h2⟩
      · rw [h]; exact ⟨(hout _ (Nat.le_refl _)).2.2, (hout _ (by omega)).2.2, (hout _ (by omega)).2.2⟩
      · rw [h1]; exact ⟨fun e => by injection e; omega, fun e => by injection e; omega, fun e => by injection e; omega⟩)
    clear hC5 hF5 hN5 hkp hout HC4 HV4 HB4 HW44 HW64 HW84 HDR
    have HSUB : Hid (∀ p ∈ dropK h0 hs, p ∈ hs) := Lib.hid (fun p hp => List.mem_of_mem_eraseP hp)
    generalize dropK h0 hs = hs5 at *
    simp only []
    have hlk : MAt.look hs5 h = none := (look_none_iff _ _).2 (fun hm => HNO5.out (HC5.out.perm.subset hm))
    have hrow := HC5.out.row
    obtain ⟨A5, q5, hv5, -, -⟩ := hrow.form
    clear hrow
    obtain ⟨m5, hm5⟩ : ∃ x, x = ot.length := ⟨_, rfl⟩
    rw [← hm5] at hv5
    have c2 : w5.cell? ⟨cb, 2, none⟩ = some (.map (some H)) := HC5.out.whole.at_ rfl
    have hr4 : w5.rangeAt w.heap.size 0 (h.map V8) := HW45.out.range
    have hr8 : w5.rangeAt g8 0 X.toList := HW85.out.range
    have hMd : MAt w5.drew H hs5 := HC5.out.mat
    obtain ⟨w6, hup, hM6, hk6, hs6, ho6, ht6, hp6⟩ := update_new hMd h hl hlk (.agg X)
    have hup' : (Instr.mapUpdate 94 (.map (some H)) (.agg (h.map V8).toArray) (.agg X)).run Tryd.prog w5.drew = .ok () w6 := hup
    have hk6' : ∀ k, k ≠ H → w6.heap[k]? = w5.heap[k]? := hk6
    have hs6' : w6.heap.size = w5.heap.size := hs6
    have hg6 : w5.grownBy w6 (some H) := ⟨ho6, ht6, hp6, by rw [hs6']; exact Nat.le_refl _, fun i hi hne => hk6' i (fun e => hne (by rw [e]))⟩
    have hout5 : ∀ g, w.heap.size ≤ g → g ≠ H := fun g hg => by have := HC.out.mat.lt; omega
    have HW66 : Hid (Whole w6 w.heap.size 29 (Sh.bcells h)) := Lib.hid ((hk6' _ (hout5 _ (Nat.le_refl _))).trans HW45.out)
    have HW67 : Hid (Whole w6 (w.heap.size + 1) 47 Tl.z27) := Lib.hid ((hk6' _ (hout5 _ (by omega))).trans HW65.out)
    have HW68 : Hid (Whole w6 g8 47 X) := Lib.hid ((hk6' _ (hout5 _ (by have := HG8.out; omega))).trans HW85.out)
    have HCB6 : Hid (Whole w6 cb 122 #[.pointer (some ⟨pb, 0, none⟩), .int .i64 room, .map (some H), v5]) := Lib.hid ((hk6' cb HC5.out.ne).trans HC5.out.whole)
    have HR6 : Hid (ORow w6 B v5 ot) := Lib.hid (by
      rcases HC5.out.row with h | ⟨h1, k, h2, h3, h4⟩
      · exact .inl (h.kept hg6 (.inr HC5.out.rh))
      · exact .inr ⟨h1, k, h2, h3, by rw [hs6']; exact h4⟩)
    have HF6 : Hid (Fc cb H v.ownBlock w w6) := Lib.hid (HF5.out.trans (r' := v5.ownBlock) ⟨ho6, ht6, hp6, by rw [hs6']; exact Nat.le_refl _, fun k hk _ h2 _ => hk6' k h2⟩ HN5.out)
    have HV6 : Hid (HV w6 cb H v5.ownBlock s (.agg X)) := Lib.hid (HV5.out.keep ⟨ho6, ht6, hp6, by rw [hs6']; exact Nat.le_refl _, fun k hk _ h2 _ => hk6' k h2⟩ (.inl rfl))
    have HVS6 : Hid (∀ p ∈ hs5, ∃ s ∈ ts, p.1 = s.sum ∧ HV w6 cb H v5.ownBlock s p.2) := Lib.hid (fun p hp => by
      obtain ⟨s1, h1, h2, h3⟩ := HC5.out.vals p hp
      exact ⟨s1, h1, h2, h3.keep ⟨ho6, ht6, hp6, by rw [hs6']; exact Nat.le_refl _, fun k hk _ h2 _ => hk6' k h2⟩ (.inl rfl)⟩)
    have HM6 := Lib.hid hM6
    have HS6 := Lib.hid hs6'
    have HV5E := Lib.hid hv5
    have HM5E := Lib.hid hm5
    have HI32 : Hid ((Tryd.prog.info? 29).map (·.size) = some (h.map V8).length) := Lib.hid (by rw [List.length_map, hl]; exact info49)
    clear hup hM6 hk6 hs6 ho6 ht6 hp6 hk6' hs6' hg6 hout5 hMd hlk hv5 hm5 HW45 HW65 HW85 HV5 HF5
    go_upto_region 6 with (fail)
    go_still_tail 6, (by kernel_rfl)
    refine Sh.wpStill_load_mid rfl 29 (.tmp 4) rfl w.heap.size 0 ?_ (h.map V8) (.array 32 5) hr4 Tryd.underlying29 rfl HI32.out ?_
    · rfl
    go_simp
    refine Sh.wpStill_load_mid rfl 47 (.tmp 8) rfl g8 0 ?_ X.toList _ hr8 Tryd.underlying47 rfl (by rw [Array.length_toList, HX.out.1]; exact info64) ?_
    · rfl
    go_simp
    refine wpStill_nil ?_
    change wpList _ _ _ _ _ w5.drew
    clear hr4 hr8 c2
    go_upto_region 7 with (fail)
    clear hup'
    have hS0 : w6.drew.cell? ⟨cb, 3, none⟩ = some (.slice A5 m5 q5) ∧ w6.drew.rangeAt w.heap.size 0 (h.map V8) := by
      refine ⟨?_, HW66.out.range⟩
      rw [← HV5E.out]
      exact HCB6.out.at_ rfl
    refine wp_region_late (S := fun u => u.cell? ⟨cb, 3, none⟩ = some (.slice A5 m5 q5) ∧ u.rangeAt w.heap.size 0 (h.map V8)) (late := (· == 10)) (by kernel_rfl) ?_
    refine wpLate_take (i := 0) (oi := { dst := some 37, op := Op.move (Operand.tmp 0), type := 64, pos := "cache.go:120", after := #[], guard := none }) (v := ?_) rfl (by kernel_rfl) (by kernel_rfl) (by kernel_rfl) (by kernel_rfl) (fun _ _ _ h => h) (Or.inl ⟨by rfl, ?_⟩) (by assumption) ?_
    rotate_left
    · first | (intro w hSw; (try dsimp only at hSw); go_simp; done) | (intro w hSw; (try dsimp only at hSw); go_simp; with_reducible rfl)
    simp only [Act.put, List.setIfInBounds_toArray, List.set_cons_zero, List.set_cons_succ]
    refine wpLate_take (i := 1) (oi := { dst := some 38, op := Op.move (Operand.tmp 0), type := 64, pos := "cache.go:120", after := #[], guard := none }) (v := ?_) rfl (by kernel_rfl) (by kernel_rfl) (by kernel_rfl) (by kernel_rfl) (fun _ _ _ h => h) (Or.inl ⟨by rfl, ?_⟩) (by assumption) ?_
    rotate_left
    · first | (intro w hSw; (try dsimp only at hSw); go_simp; done) | (intro w hSw; (try dsimp only at hSw); go_simp; with_reducible rfl)
    simp only [Act.put, List.setIfInBounds_toArray, List.set_cons_zero, List.set_cons_succ]
    refine wpLate_take (i := 2) (oi := { dst := some 39, op := Op.nilCheck (Operand.tmp 38), type := 0, pos := "cache.go:120", after := #[{ on := 1, ground := Ground.data }], guard := none }) (v := ?_) rfl (by kernel_rfl) (by kernel_rfl) (by kernel_rfl) (by kernel_rfl) (fun _ _ _ h => h) (Or.inl ⟨by rfl, ?_⟩) (by assumption) ?_
    rotate_left
    · first | (intro w hSw; (try dsimp only at hSw); go_simp; done) | (intro w hSw; (try dsimp only at hSw); go_simp; with_reducible rfl)
    simp only [Act.put, List.setIfInBounds_toArray, List.set_cons_zero, List.set_cons_succ]
    refine wpLate_take (i := 3) (oi := { dst := some 40, op := Op.fieldAddr 122 (Operand.tmp 39) 3, type := 0, pos := "cache.go:120", after := #[{ on := 2, ground := Ground.data }], guard := none }) (v := ?_) rfl (by kernel_rfl) (by kernel_rfl) (by kernel_rfl) (by kernel_rfl) (fun _ _ _ h => h) (Or.inl ⟨by rfl, ?_⟩) (by assumption) ?_
    rotate_left
    · first | (intro w hSw; (try dsimp only at hSw); go_simp; done) | (intro w hSw; (try dsimp only at hSw); go_simp; with_reducible rfl)
    simp only [Act.put, List.setIfInBounds_toArray, List.set_cons_zero, List.set_cons_succ]
    refine wpLate_take (i := 4) (oi := { dst := some 41, op := Op.load 61 (Operand.tmp 40), type := 61, pos := "cache.go:120", after := #[{ on := 3, ground := Ground.data }], guard := none }) (v := ?_) rfl (by kernel_rfl) (by kernel_rfl) (by kernel_rfl) (by kernel_rfl) (fun _ _ _ h => h) (Or.inl ⟨by rfl, ?_⟩) (by assumption) ?_
    rotate_left
    · first | (intro w hSw; (try dsimp only at hSw); go_simp; done) | (intro w hSw; (try dsimp only at hSw); go_simp; with_reducible rfl)
    simp only [Act.put, List.setIfInBounds_toArray, List.set_cons_zero, List.set_cons_succ]
    refine wpLate_take (i := 5) (oi := { dst := some 42, op := Op.load 29 (Operand.tmp 4), type := 29, pos := "cache.go:120", after := #[], guard := none }) (v := .agg (h.map V8).toArray) rfl (by kernel_rfl) (by kernel_rfl) (by kernel_rfl) (by kernel_rfl) (fun _ _ _ h => h) (yieldsIf_load_mid (by rfl) 29 (.tmp 4) rfl w.heap.size 0 rfl (h.map V8) _ (fun _ h => h.2) Tryd.underlying29 rfl HI32.out) (by assumption) ?_
    simp only [Act.put, List.setIfInBounds_toArray, List.set_cons_zero, List.set_cons_succ]
    have hb7 : Below w6.heap.size w6 (w6.drew.alloc (.cells (Sh.bcells h) 29)) := (Below.refl _ _).drew.alloc (Nat.le_refl _) _
    have hw7 : Whole (w6.drew.alloc (.cells (Sh.bcells h) 29)) w6.heap.size 29 (Sh.bcells h) := Whole.made w6.drew 29 (Sh.bcells h)
    have hsz7 : (w6.drew.alloc (.cells (Sh.bcells h) 29)).heap.size = w6.heap.size + 1 := size_alloc _ _
    refine wpLate_ready (rs := [6]) (by kernel_rfl) (by simp) ?_
    refine AllLate.cons (o := { dst := some 43, op := Op.buildSlice 61 1 #[(0, Operand.tmp 42)], type := 61, pos := "cache.go:120", after := #[{ on := 5, ground := Ground.data }], guard := none }) rfl (fun K hK => ?_) AllLate.nil
    refine Eq.mpr (if_pos (by rfl)) ?_
    refine wp_build_sum (.tmp 42) rfl (Sh.bcells h) ((Sh.bcells_size h).trans hl) rfl ?_
    refine hK.out _ _ (fun _ => ⟨(hb7.cell (p := ⟨cb, 3, none⟩) HCB6.out.lt).trans hS0.1, (HW66.out.below hb7 HW66.out.lt).range⟩) ?_
    clear hK K
    have hc7 := (hb7.cell (p := ⟨cb, 3, none⟩) HCB6.out.lt).trans hS0.1
    have HCB7 := Lib.hid (HCB6.out.below hb7 HCB6.out.lt)
    have HW76 := Lib.hid (HW66.out.below hb7 HW66.out.lt)
    have HW77 := Lib.hid (HW67.out.below hb7 HW67.out.lt)
    have HW78 := Lib.hid (HW68.out.below hb7 HW68.out.lt)
    have HM7 := Lib.hid (HM6.out.block (hb7.block H HM6.out.lt))
    have HF7 := Lib.hid (HF6.out.trans (r' := v5.ownBlock) (Fc.of_below hb7) HN5.out)
    have HV7 := Lib.hid (HV6.out.keep (Fc.of_below hb7) (.inl rfl))
    have HVS7 : Hid (∀ p ∈ hs5, ∃ s ∈ ts, p.1 = s.sum ∧ HV (w6.drew.alloc (.cells (Sh.bcells h) 29)) cb H v5.ownBlock s p.2) := Lib.hid (fun p hp => by
      obtain ⟨s1, h1, h2, h3⟩ := HVS6.out p hp
      exact ⟨s1, h1, h2, h3.keep (Fc.of_below hb7) (.inl rfl)⟩)
    have HR7 : Hid (ORow (w6.drew.alloc (.cells (Sh.bcells h) 29)) B v5 ot) := Lib.hid (by
      rcases HR6.out with h | ⟨h1, k, h2, h3, h4⟩
      · exact .inl (own_keep h hb7)
      · exact .inr ⟨h1, k, h2, h3, Nat.lt_of_lt_of_le h4 hb7.size⟩)
    have HS7 : Hid (w5.heap.size ≤ (w6.drew.alloc (.cells (Sh.bcells h) 29)).heap.size ∧ w6.heap.size = w5.heap.size) := Lib.hid ⟨by rw [hsz7, HS6.out]; omega, HS6.out⟩
    have HW7 := Lib.hid hw7
    clear hb7 hw7 hsz7 HCB6 HW66 HW67 HW68 HM6 HF6 HV6 HVS6 HR6 HS6 hS0
    generalize w6.drew.alloc (.cells (Sh.bcells h) 29) = w7 at *
    obtain ⟨v8, w8, hrun, hR8, hg8, hb8⟩ := append_sum HR7.out HW7.out hl (by have := HL5.out; omega) (by have := HC5.out.cb_ge; have := HCB7.out.lt; omega) 61
    have hrun' : (Builtin.append_ #[61, 61] 61 #[.slice A5 m5 q5, .slice (some ⟨w6.heap.size, 0, none⟩) 1 1]).run Tryd.prog w7 = .ok v8 w8 := by rw [← HV5E.out]; exact hrun
    obtain ⟨A8, q8, hv8, -, -⟩ := ORow.form hR8
    obtain ⟨m8, hm8⟩ : ∃ x, x = (ot ++ [h]).length := ⟨_, rfl⟩
    rw [← hm8] at hv8
    clear hm8
    subst hv8
    simp only [Act.put, List.setIfInBounds_toArray, List.set_cons_zero, List.set_cons_succ]
    refine wpLate_ready (rs := [7]) (by kernel_rfl) (by simp) ?_
    refine AllLate.cons (o := { dst := some 44, op := Op.call { callee := Callee.builtin Builtin.append, args := #[Operand.tmp 41, Operand.tmp 43], argTypes := #[61, 61] }, type := 61, pos := "cache.go:120", after := #[{ on := 4, ground := Ground.data }, { on := 6, ground := Ground.data }], guard := none }) rfl (fun K hK => ?_) AllLate.nil
    refine step_append_run rfl (.tmp 41) (.tmp 43) 61 rfl rfl rfl hrun' ?_
    have hf8 : Fc cb H v5.ownBlock w7 w8 := ⟨hg8.os, hg8.tape, hg8.output, hg8.size, fun k hk _ _ h3 => hg8.block k hk (fun e => h3 e.symm)⟩
    have hn8 : RNew w7 v5.ownBlock (Value.slice A8 m8 q8).ownBlock := by
      rcases hb8 with h | ⟨j, h1, h2, _⟩
      · exact .inl h
      · exact .inr ⟨j, h1, h2⟩
    have hgr : ∀ (g : Nat) (t : TypeId) (cs : Array Value), Whole w7 g t cs → v5.ownBlock ≠ some g → Whole w8 g t cs := fun g t cs hw hne => (hg8.block g hw.lt (fun e => hne e.symm)).trans hw
    have HCB8 := Lib.hid (hgr _ _ _ HCB7.out HC5.out.rcb)
    have HW86 := Lib.hid (hgr _ _ _ HW76.out HNR5.out.1)
    have HW87 := Lib.hid (hgr _ _ _ HW77.out HNR5.out.2.1)
    have HW88 := Lib.hid (hgr _ _ _ HW78.out HNR5.out.2.2)
    have HM8 := Lib.hid (HM7.out.block (hg8.block H HM7.out.lt (fun e => HC5.out.rh e.symm)))
    have HF8 := Lib.hid (HF7.out.trans hf8 HN5.out)
    have HN8 : Hid (RNew w v.ownBlock (Value.slice A8 m8 q8).ownBlock) := Lib.hid (HN5.out.trans hn8 (by have := HF7.out.size; omega))
    have HV8 := Lib.hid (HV7.out.keep hf8 hn8)
    have HVS8 : Hid (∀ p ∈ hs5, ∃ s ∈ ts, p.1 = s.sum ∧ HV w8 cb H (Value.slice A8 m8 q8).ownBlock s p.2) := Lib.hid (fun p hp => by
      obtain ⟨s1, h1, h2, h3⟩ := HVS7.out p hp
      exact ⟨s1, h1, h2, h3.keep hf8 hn8⟩)
    have HR8 := Lib.hid hR8
    have HO8 : Hid (∀ g, (Value.slice A8 m8 q8).ownBlock = some g → g ≠ cb ∧ g ≠ H ∧ g ≠ w.heap.size + 1 ∧ B ≤ g ∧ g < w8.heap.size) := Lib.hid (fun g hg => by
      have l1 := HCB7.out.lt
      have l2 := HM7.out.lt
      have l3 := HW77.out.lt
      have l4 := HC5.out.cb_ge
      have l5 := HS7.out.1
      have l6 := hg8.size
      rcases hb8 with h | ⟨j, h1, h2, h3⟩
      · rw [hg] at h
        obtain ⟨r1, r2⟩ := HC5.out.rB g h.symm
        exact ⟨fun e => HC5.out.rcb (by rw [← e]; exact h.symm), fun e => HC5.out.rh (by rw [← e]; exact h.symm), fun e => HNR5.out.2.1 (by rw [← e]; exact h.symm), r1, by omega⟩
      · rw [hg] at h1
        injection h1 with h1
        exact ⟨by omega, by omega, by omega, by omega, by omega⟩)
    have hd8 : w8.cell? ⟨cb, 3, none⟩ = some v5 := HCB8.out.at_ rfl
    have hr8 : w8.rangeAt w.heap.size 0 (h.map V8) := HW86.out.range
    rw [HV5E.out] at hd8
    refine hK.out _ _ (fun _ => ⟨hd8, hr8⟩) ?_
    clear hK K hrun hrun' hR8 hg8 hb8 hf8 hn8 hgr HCB7 HW76 HW77 HW78 HM7 HF7 HV7 HVS7 HR7 HS7 HW7 hc7
    simp only [Act.put, List.setIfInBounds_toArray, List.set_cons_zero, List.set_cons_succ]
    refine wpLate_ready (rs := [8]) (by kernel_rfl) (by simp) ?_
    refine AllLate.cons rfl (fun K hK => ?_) AllLate.nil
    go_simp
    refine hK.out _ _ (fun _ => ⟨hd8, hr8⟩) ?_
    clear hK K
    refine wpLate_ready (rs := [9]) (by kernel_rfl) (by simp) ?_
    refine AllLate.cons rfl (fun K hK => ?_) AllLate.nil
    go_simp
    refine hK.out _ _ (fun _ => ⟨hd8, hr8⟩) ?_
    clear hK K
    have f0 := HCB8.out.free 3
    refine wpLate_ready (rs := [10]) (by kernel_rfl) (by simp) ?_
    refine AllLate.cons rfl (fun K hK => ?_) AllLate.nil
    go_simp
    refine hK.out _ _ (fun h => absurd h (by decide)) ?_
    clear hK K f0 hd8 hr8
    have HW9 := Lib.hid (HCB8.out.set 3 (.slice A8 m8 q8))
    have hk9 : ∀ k, k ≠ cb → (w8.setCell ⟨cb, 3, none⟩ (.slice A8 m8 q8)).heap[k]? = w8.heap[k]? := fun k hk => Below.heap_setCell w8 ⟨cb, 3, none⟩ (.slice A8 m8 q8) k hk
    have hs9 : (w8.setCell ⟨cb, 3, none⟩ (.slice A8 m8 q8)).heap.size = w8.heap.size := World.size_setCell _ _ _
    have HF9 : Hid (Fc cb H (Value.slice A8 m8 q8).ownBlock w8 (w8.setCell ⟨cb, 3, none⟩ (.slice A8 m8 q8))) := Lib.hid ⟨rfl, rfl, rfl, by rw [hs9]; exact Nat.le_refl _, fun k hk h1 _ _ => hk9 k h1⟩
    have HK9 := Lib.hid (And.intro hk9 hs9)
    have hcbN : w.heap.size + 1 ≠ cb ∧ g8 ≠ cb := by
      have := HC.out.whole.lt
      have := HG8.out
      exact ⟨by omega, by omega⟩
    have HW97 := Lib.hid ((hk9 _ hcbN.1).trans HW87.out)
    have hW98 := (hk9 _ hcbN.2).trans HW88.out
    have HCN := Lib.hid hcbN
    clear hk9 hs9 hcbN
    generalize w8.setCell ⟨cb, 3, none⟩ (.slice A8 m8 q8) = w9 at *
    refine wpLate_done (by kernel_rfl) ?_ _
    have hW98' : Whole w9 g8 47 X := hW98
    have HW98 := Lib.hid hW98'
    clear hW98 hW98'
    go_upto_region 8 with (fail)
    refine wp_region_lit ?_
    refine wpList_load_mid rfl 47 (.tmp 8) rfl g8 0 rfl X.toList _ HW98.out.range Tryd.underlying47 rfl (by rw [Array.length_toList, HX.out.1]; exact info64) ?_
    simp only [Act.put, List.setIfInBounds_toArray, List.set_cons_zero, List.set_cons_succ, Array.toArray_toList]
    refine wpList_store_mid rfl 47 (.tmp 6) (.tmp 47) rfl (w.heap.size + 1) 0 X rfl rfl ?_ ?_ HX.out.2.1 ?_
    · rw [HX.out.1]; have := (show Whole w9 (w.heap.size + 1) 47 Tl.z27 from HW97.out).there_; rw [Tl.z27_size] at this; exact this
    · rw [HX.out.1]; exact info64
    have HWA : Hid (Whole (w9.setCells (w.heap.size + 1) 0 X.toList) (w.heap.size + 1) 47 X) := Lib.hid ((show Whole w9 (w.heap.size + 1) 47 Tl.z27 from HW97.out).setAll (by rw [Tl.z27_size, HX.out.1]))
    have hbA : Below (w.heap.size + 1) w9 (w9.setCells (w.heap.size + 1) 0 X.toList) := below_setCells w9 (w.heap.size + 1) _ 0 (Below.refl _ _) (Nat.le_refl _)
    have hkA : ∀ k, k ≠ w.heap.size + 1 → (w9.setCells (w.heap.size + 1) 0 X.toList).heap[k]? = w9.heap[k]? := fun k hk => heap_setCells_other (w.heap.size + 1) k hk X.toList 0 w9
    have HBA := Lib.hid hbA
    have HKA := Lib.hid hkA
    have HSA : Hid ((w9.setCells (w.heap.size + 1) 0 X.toList).heap.size = w9.heap.size) := Lib.hid (size_setCells _ _ _ _)
    clear hbA hkA
    generalize w9.setCells (w.heap.size + 1) 0 X.toList = wA at *
    go_wp2_with fail
    refine bodyPost_ret (results_cell2 Tryd.results81 _ _ _ ⟨w.heap.size + 1, 0, none⟩ _ rfl (load_whole HWA.out 47 _ Tryd.underlying47 rfl (by rw [HX.out.1]; exact info64))) rfl ?_
    have hsA : w8.heap.size ≤ wA.heap.size := by rw [HSA.out, HK9.out.2]; exact Nat.le_refl _
    have hl7 := HF8.out.size
    have hFin : Fc cb H v.ownBlock w wA := by
      have f := HF8.out.trans HF9.out HN8.out
      exact ⟨HBA.out.os.trans f.os, HBA.out.tape.trans f.tape, HBA.out.output.trans f.output, by omega, fun k hk h1 h2 h3 => (HKA.out k (by omega)).trans (f.block k hk h1 h2 h3)⟩
    have hs89 : w8.heap.size ≤ w9.heap.size := by rw [HK9.out.2]; exact Nat.le_refl _
    have hs9A : w9.heap.size ≤ wA.heap.size := by rw [HSA.out]; exact Nat.le_refl _
    have hVA : ∀ s1 u, Off (w.heap.size + 1) u → HV w8 cb H (Value.slice A8 m8 q8).ownBlock s1 u → HV wA cb H (Value.slice A8 m8 q8).ownBlock s1 u := fun s1 u ho h => (h.keep HF9.out (.inl rfl)).other ho HKA.out hs9A
    have hcN := HCN.out.1
    obtain ⟨hh, hno, _⟩ := HH.out
    have hH1 := HC.out.mat.lt
    have hc5 := HC5.out
    have hperm : ((hs5 ++ [(h, Value.agg X)]).map (·.1)).Perm (ot ++ [h]) := by
      rw [List.map_append]
      exact hc5.perm.append (List.Perm.refl _)
    have hC' : CAt wA B cb pb H room ts (hs5 ++ [(h, .agg X)]) (.slice A8 m8 q8) (ot ++ [h]) := by
      refine ⟨(HKA.out cb (Ne.symm hcN)).trans HW9.out, (HM8.out.block (HK9.out.1 H (Ne.symm hc5.ne))).block (HKA.out H (by omega)), ?_, hc5.cb_ge, hc5.h_ge, hc5.ne, fun e => (HO8.out _ e).1 rfl, fun e => (HO8.out _ e).2.1 rfl, fun g hg => ⟨(HO8.out g hg).2.2.2.1, by have := (HO8.out g hg).2.2.2.2; omega⟩, ?_, ?_, hperm, ?_, ?_⟩
      · exact HR8.out.keepBlock (fun g hg => (HKA.out g (HO8.out g hg).2.2.1).trans (HK9.out.1 g (HO8.out g hg).1)) hsA
      · exact List.nodup_append.2 ⟨hc5.nodup, by simp, fun a ha b hb => by rw [List.mem_singleton.1 hb]; exact fun e => HNO5.out (e ▸ ha)⟩
      · intro x hx
        rcases List.mem_append.1 hx with hx | hx
        · exact hc5.len32 x hx
        · rw [List.mem_singleton.1 hx]; exact hl
      · rw [List.length_append]
        have := HL5.out
        simp
        omega
      · intro p hp
        rcases List.mem_append.1 hp with hp | hp
        · obtain ⟨s1, h1, h2, h3⟩ := HVS8.out p hp
          exact ⟨s1, h1, h2, hVA s1 p.2 (HOFF.out p (HSUB.out p hp)) h3⟩
        · rw [List.mem_singleton.1 hp]
          exact ⟨s, hs0, hh, hVA s _ (HOX.out _ (Nat.le_refl _)) HV8.out⟩
    rw [hh] at hC'
    exact ⟨.agg X, _, _, _, rfl, hC', hVA s _ (HOX.out _ (Nat.le_refl _)) HV8.out, hFin, HN8.out, fun g hg ho => ⟨HOX.out g (by omega), fun p hp => by
      rcases List.mem_append.1 hp with hp | hp
      · exact ho p (HSUB.out p hp)
      · rw [List.mem_singleton.1 hp]
        exact HOX.out g (by omega)⟩⟩
  · have hfI : ¬ (room : Int) ≤ (m : Int) := by omega
    go_upto_region 4 with (fail)
    go_quiet (fail)
    have hbq : Below w3.heap.size w3 (w3.drewN nq) := ⟨rfl, rfl, rfl, Nat.le_refl _, fun _ _ => rfl⟩
    have HC4 := Lib.hid (HC3.out.below hbq)
    have HV4 := Lib.hid (HV3.out.keep (Fc.of_below hbq) (.inl rfl))
    have HB4 := Lib.hid (HB3.out.trans (hbq.mono (by have := HB3.out.size; omega)))
    have HW44 := Lib.hid (HW43.out.below hbq HW43.out.lt)
    have HW64 := Lib.hid (HW63.out.below hbq HW63.out.lt)
    have HW84 := Lib.hid (HW83.out.below hbq HW83.out.lt)
    clear hbq HC3 HV3 HB3 HW43 HW63 HW83 c1 c3 hfI
    generalize w3.drewN nq = w4 at *
    have HC5 := HC4
    have HF5 : Hid (Fc cb H v.ownBlock w w4) := Lib.hid (Fc.of_below HB4.out)
    have HN5 : Hid (RNew w v.ownBlock v.ownBlock) := Lib.hid (.inl rfl)
    have HV5 := HV4
    have HW45 := HW44
    have HW65 := HW64
    have HW85 := HW84
    have HSUB : Hid (∀ p ∈ hs, p ∈ hs) := Lib.hid (fun p hp => hp)
    have HL5 : Hid (os.length < room) := Lib.hid (by have := HMM.out; omega)
    have HNO5 : Hid (h ∉ os) := Lib.hid HH.out.2.1
    have HNR5 : Hid (v.ownBlock ≠ some w.heap.size ∧ v.ownBlock ≠ some (w.heap.size + 1) ∧ v.ownBlock ≠ some g8) := Lib.hid (by
      have l4 := HG8.out
      exact ⟨fun e => by have := (HC.out.rB _ e).2; omega, fun e => by have := (HC.out.rB _ e).2; omega, fun e => by have := (HC.out.rB _ e).2; omega⟩)
    clear HC4 HV4 HB4 HW44 HW64 HW84
    have hlk : MAt.look hs h = none := (look_none_iff _ _).2 (fun hm => HNO5.out (HC5.out.perm.subset hm))
    have hrow := HC5.out.row
    obtain ⟨A5, q5, hv5, -, -⟩ := hrow.form
    clear hrow
    obtain ⟨m5, hm5⟩ : ∃ x, x = os.length := ⟨_, rfl⟩
    rw [← hm5] at hv5
    have c2 : w4.cell? ⟨cb, 2, none⟩ = some (.map (some H)) := HC5.out.whole.at_ rfl
    have hr4 : w4.rangeAt w.heap.size 0 (h.map V8) := HW45.out.range
    have hr8 : w4.rangeAt g8 0 X.toList := HW85.out.range
    have hMd : MAt w4.drew H hs := HC5.out.mat
    obtain ⟨w6, hup, hM6, hk6, hs6, ho6, ht6, hp6⟩ := update_new hMd h hl hlk (.agg X)
    have hup' : (Instr.mapUpdate 94 (.map (some H)) (.agg (h.map V8).toArray) (.agg X)).run Tryd.prog w4.drew = .ok () w6 := hup
    have hk6' : ∀ k, k ≠ H → w6.heap[k]? = w4.heap[k]? := hk6
    have hs6' : w6.heap.size = w4.heap.size := hs6
    have hg6 : w4.grownBy w6 (some H) := ⟨ho6, ht6, hp6, by rw [hs6']; exact Nat.le_refl _, fun i hi hne => hk6' i (fun e => hne (by rw [e]))⟩
    have hout5 : ∀ g, w.heap.size ≤ g → g ≠ H := fun g hg => by have := HC.out.mat.lt; omega
    have HW66 : Hid (Whole w6 w.heap.size 29 (Sh.bcells h)) := Lib.hid ((hk6' _ (hout5 _ (Nat.le_refl _))).trans HW45.out)
    have HW67 : Hid (Whole w6 (w.heap.size + 1) 47 Tl.z27) := Lib.hid ((hk6' _ (hout5 _ (by omega))).trans HW65.out)
    have HW68 : Hid (Whole w6 g8 47 X) := Lib.hid ((hk6' _ (hout5 _ (by have := HG8.out; omega))).trans HW85.out)
    have HCB6 : Hid (Whole w6 cb 122 #[.pointer (some ⟨pb, 0, none⟩), .int .i64 room, .map (some H), v]) := Lib.hid ((hk6' cb HC5.out.ne).trans HC5.out.whole)
    have HR6 : Hid (ORow w6 B v os) := Lib.hid (by
      rcases HC5.out.row with h | ⟨h1, k, h2, h3, h4⟩
      · exact .inl (h.kept hg6 (.inr HC5.out.rh))
      · exact .inr ⟨h1, k, h2, h3, by rw [hs6']; exact h4⟩)
    have HF6 : Hid (Fc cb H v.ownBlock w w6) := Lib.hid (HF5.out.trans (r' := v.ownBlock) ⟨ho6, ht6, hp6, by rw [hs6']; exact Nat.le_refl _, fun k hk _ h2 _ => hk6' k h2⟩ HN5.out)
    have HV6 : Hid (HV w6 cb H v.ownBlock s (.agg X)) := Lib.hid (HV5.out.keep ⟨ho6, ht6, hp6, by rw [hs6']; exact Nat.le_refl _, fun k hk _ h2 _ => hk6' k h2⟩ (.inl rfl))
    have HVS6 : Hid (∀ p ∈ hs, ∃ s ∈ ts, p.1 = s.sum ∧ HV w6 cb H v.ownBlock s p.2) := Lib.hid (fun p hp => by
      obtain ⟨s1, h1, h2, h3⟩ := HC5.out.vals p hp
      exact ⟨s1, h1, h2, h3.keep ⟨ho6, ht6, hp6, by rw [hs6']; exact Nat.le_refl _, fun k hk _ h2 _ => hk6' k h2⟩ (.inl rfl)⟩)
    have HM6 := Lib.hid hM6
    have HS6 := Lib.hid hs6'
    have HV5E := Lib.hid hv5
    have HM5E := Lib.hid hm5
    have HI32 : Hid ((Tryd.prog.info? 29).map (·.size) = some (h.map V8).length) := Lib.hid (by rw [List.length_map, hl]; exact info49)
    clear hup hM6 hk6 hs6 ho6 ht6 hp6 hk6' hs6' hg6 hout5 hMd hlk hv5 hm5 HW45 HW65 HW85 HV5 HF5
    go_upto_region 6 with (fail)
    go_still_tail 6, (by kernel_rfl)
    refine Sh.wpStill_load_mid rfl 29 (.tmp 4) rfl w.heap.size 0 ?_ (h.map V8) (.array 32 5) hr4 Tryd.underlying29 rfl HI32.out ?_
    · rfl
    go_simp
    refine Sh.wpStill_load_mid rfl 47 (.tmp 8) rfl g8 0 ?_ X.toList _ hr8 Tryd.underlying47 rfl (by rw [Array.length_toList, HX.out.1]; exact info64) ?_
    · rfl
    go_simp
    refine wpStill_nil ?_
    change wpList _ _ _ _ _ w4.drew
    clear hr4 hr8 c2
    go_upto_region 7 with (fail)
    clear hup'
    have hS0 : w6.drew.cell? ⟨cb, 3, none⟩ = some (.slice A5 m5 q5) ∧ w6.drew.rangeAt w.heap.size 0 (h.map V8) := by
      refine ⟨?_, HW66.out.range⟩
      rw [← HV5E.out]
      exact HCB6.out.at_ rfl
    refine wp_region_late (S := fun u => u.cell? ⟨cb, 3, none⟩ = some (.slice A5 m5 q5) ∧ u.rangeAt w.heap.size 0 (h.map V8)) (late := (· == 10)) (by kernel_rfl) ?_
    refine wpLate_take (i := 0) (oi := { dst := some 37, op := Op.move (Operand.tmp 0), type := 64, pos := "cache.go:120", after := #[], guard := none }) (v := ?_) rfl (by kernel_rfl) (by kernel_rfl) (by kernel_rfl) (by kernel_rfl) (fun _ _ _ h => h) (Or.inl ⟨by rfl, ?_⟩) (by assumption) ?_
    rotate_left
    · first | (intro w hSw; (try dsimp only at hSw); go_simp; done) | (intro w hSw; (try dsimp only at hSw); go_simp; with_reducible rfl)
    simp only [Act.put, List.setIfInBounds_toArray, List.set_cons_zero, List.set_cons_succ]
    refine wpLate_take (i := 1) (oi := { dst := some 38, op := Op.move (Operand.tmp 0), type := 64, pos := "cache.go:120", after := #[], guard := none }) (v := ?_) rfl (by kernel_rfl) (by kernel_rfl) (by kernel_rfl) (by kernel_rfl) (fun _ _ _ h => h) (Or.inl ⟨by rfl, ?_⟩) (by assumption) ?_
    rotate_left
    · first | (intro w hSw; (try dsimp only at hSw); go_simp; done) | (intro w hSw; (try dsimp only at hSw); go_simp; with_reducible rfl)
    simp only [Act.put, List.setIfInBounds_toArray, List.set_cons_zero, List.set_cons_succ]
    refine wpLate_take (i := 2) (oi := { dst := some 39, op := Op.nilCheck (Operand.tmp 38), type := 0, pos := "cache.go:120", after := #[{ on := 1, ground := Ground.data }], guard := none }) (v := ?_) rfl (by kernel_rfl) (by kernel_rfl) (by kernel_rfl) (by kernel_rfl) (fun _ _ _ h => h) (Or.inl ⟨by rfl, ?_⟩) (by assumption) ?_
    rotate_left
    · first | (intro w hSw; (try dsimp only at hSw); go_simp; done) | (intro w hSw; (try dsimp only at hSw); go_simp; with_reducible rfl)
    simp only [Act.put, List.setIfInBounds_toArray, List.set_cons_zero, List.set_cons_succ]
    refine wpLate_take (i := 3) (oi := { dst := some 40, op := Op.fieldAddr 122 (Operand.tmp 39) 3, type := 0, pos := "cache.go:120", after := #[{ on := 2, ground := Ground.data }], guard := none }) (v := ?_) rfl (by kernel_rfl) (by kernel_rfl) (by kernel_rfl) (by kernel_rfl) (fun _ _ _ h => h) (Or.inl ⟨by rfl, ?_⟩) (by assumption) ?_
    rotate_left
    · first | (intro w hSw; (try dsimp only at hSw); go_simp; done) | (intro w hSw; (try dsimp only at hSw); go_simp; with_reducible rfl)
    simp only [Act.put, List.setIfInBounds_toArray, List.set_cons_zero, List.set_cons_succ]
    refine wpLate_take (i := 4) (oi := { dst := some 41, op := Op.load 61 (Operand.tmp 40), type := 61, pos := "cache.go:120", after := #[{ on := 3, ground := Ground.data }], guard := none }) (v := ?_) rfl (by kernel_rfl) (by kernel_rfl) (by kernel_rfl) (by kernel_rfl) (fun _ _ _ h => h) (Or.inl ⟨by rfl, ?_⟩) (by assumption) ?_
    rotate_left
    · first | (intro w hSw; (try dsimp only at hSw); go_simp; done) | (intro w hSw; (try dsimp only at hSw); go_simp; with_reducible rfl)
    simp only [Act.put, List.setIfInBounds_toArray, List.set_cons_zero, List.set_cons_succ]
    refine wpLate_take (i := 5) (oi := { dst := some 42, op := Op.load 29 (Operand.tmp 4), type := 29, pos := "cache.go:120", after := #[], guard := none }) (v := .agg (h.map V8).toArray) rfl (by kernel_rfl) (by kernel_rfl) (by kernel_rfl) (by kernel_rfl) (fun _ _ _ h => h) (yieldsIf_load_mid (by rfl) 29 (.tmp 4) rfl w.heap.size 0 rfl (h.map V8) _ (fun _ h => h.2) Tryd.underlying29 rfl HI32.out) (by assumption) ?_
    simp only [Act.put, List.setIfInBounds_toArray, List.set_cons_zero, List.set_cons_succ]
    have hb7 : Below w6.heap.size w6 (w6.drew.alloc (.cells (Sh.bcells h) 29)) := (Below.refl _ _).drew.alloc (Nat.le_refl _) _
    have hw7 : Whole (w6.drew.alloc (.cells (Sh.bcells h) 29)) w6.heap.size 29 (Sh.bcells h) := Whole.made w6.drew 29 (Sh.bcells h)
    have hsz7 : (w6.drew.alloc (.cells (Sh.bcells h) 29)).heap.size = w6.heap.size + 1 := size_alloc _ _
    refine wpLate_ready (rs := [6]) (by kernel_rfl) (by simp) ?_
    refine AllLate.cons (o := { dst := some 43, op := Op.buildSlice 61 1 #[(0, Operand.tmp 42)], type := 61, pos := "cache.go:120", after := #[{ on := 5, ground := Ground.data }], guard := none }) rfl (fun K hK => ?_) AllLate.nil
    refine Eq.mpr (if_pos (by rfl)) ?_
    refine wp_build_sum (.tmp 42) rfl (Sh.bcells h) ((Sh.bcells_size h).trans hl) rfl ?_
    refine hK.out _ _ (fun _ => ⟨(hb7.cell (p := ⟨cb, 3, none⟩) HCB6.out.lt).trans hS0.1, (HW66.out.below hb7 HW66.out.lt).range⟩) ?_
    clear hK K
    have hc7 := (hb7.cell (p := ⟨cb, 3, none⟩) HCB6.out.lt).trans hS0.1
    have HCB7 := Lib.hid (HCB6.out.below hb7 HCB6.out.lt)
    have HW76 := Lib.hid (HW66.out.below hb7 HW66.out.lt)
    have HW77 := Lib.hid (HW67.out.below hb7 HW67.out.lt)
    have HW78 := Lib.hid (HW68.out.below hb7 HW68.out.lt)
    have HM7 := Lib.hid (HM6.out.block (hb7.block H HM6.out.lt))
    have HF7 := Lib.hid (HF6.out.trans (r' := v.ownBlock) (Fc.of_below hb7) HN5.out)
    have HV7 := Lib.hid (HV6.out.keep (Fc.of_below hb7) (.inl rfl))
    have HVS7 : Hid (∀ p ∈ hs, ∃ s ∈ ts, p.1 = s.sum ∧ HV (w6.drew.alloc (.cells (Sh.bcells h) 29)) cb H v.ownBlock s p.2) := Lib.hid (fun p hp => by
      obtain ⟨s1, h1, h2, h3⟩ := HVS6.out p hp
      exact ⟨s1, h1, h2, h3.keep (Fc.of_below hb7) (.inl rfl)⟩)
    have HR7 : Hid (ORow (w6.drew.alloc (.cells (Sh.bcells h) 29)) B v os) := Lib.hid (by
      rcases HR6.out with h | ⟨h1, k, h2, h3, h4⟩
      · exact .inl (own_keep h hb7)
      · exact .inr ⟨h1, k, h2, h3, Nat.lt_of_lt_of_le h4 hb7.size⟩)
    have HS7 : Hid (w4.heap.size ≤ (w6.drew.alloc (.cells (Sh.bcells h) 29)).heap.size ∧ w6.heap.size = w4.heap.size) := Lib.hid ⟨by rw [hsz7, HS6.out]; omega, HS6.out⟩
    have HW7 := Lib.hid hw7
    clear hb7 hw7 hsz7 HCB6 HW66 HW67 HW68 HM6 HF6 HV6 HVS6 HR6 HS6 hS0
    generalize w6.drew.alloc (.cells (Sh.bcells h) 29) = w7 at *
    obtain ⟨v8, w8, hrun, hR8, hg8, hb8⟩ := append_sum HR7.out HW7.out hl (by have := HL5.out; omega) (by have := HC5.out.cb_ge; have := HCB7.out.lt; omega) 61
    have hrun' : (Builtin.append_ #[61, 61] 61 #[.slice A5 m5 q5, .slice (some ⟨w6.heap.size, 0, none⟩) 1 1]).run Tryd.prog w7 = .ok v8 w8 := by rw [← HV5E.out]; exact hrun
    obtain ⟨A8, q8, hv8, -, -⟩ := ORow.form hR8
    obtain ⟨m8, hm8⟩ : ∃ x, x = (os ++ [h]).length := ⟨_, rfl⟩
    rw [← hm8] at hv8
    clear hm8
    subst hv8
    simp only [Act.put, List.setIfInBounds_toArray, List.set_cons_zero, List.set_cons_succ]
    refine wpLate_ready (rs := [7]) (by kernel_rfl) (by simp) ?_
    refine AllLate.cons (o := { dst := some 44, op := Op.call { callee := Callee.builtin Builtin.append, args := #[Operand.tmp 41, Operand.tmp 43], argTypes := #[61, 61] }, type := 61, pos := "cache.go:120", after := #[{ on := 4, ground := Ground.data }, { on := 6, ground := Ground.data }], guard := none }) rfl (fun K hK => ?_) AllLate.nil
    refine step_append_run rfl (.tmp 41) (.tmp 43) 61 rfl rfl rfl hrun' ?_
    have hf8 : Fc cb H v.ownBlock w7 w8 := ⟨hg8.os, hg8.tape, hg8.output, hg8.size, fun k hk _ _ h3 => hg8.block k hk (fun e => h3 e.symm)⟩
    have hn8 : RNew w7 v.ownBlock (Value.slice A8 m8 q8).ownBlock := by
      rcases hb8 with h | ⟨j, h1, h2, _⟩
      · exact .inl h
      · exact .inr ⟨j, h1, h2⟩
    have hgr : ∀ (g : Nat) (t : TypeId) (cs : Array Value), Whole w7 g t cs → v.ownBlock ≠ some g → Whole w8 g t cs := fun g t cs hw hne => (hg8.block g hw.lt (fun e => hne e.symm)).trans hw
    have HCB8 := Lib.hid (hgr _ _ _ HCB7.out HC5.out.rcb)
    have HW86 := Lib.hid (hgr _ _ _ HW76.out HNR5.out.1)
    have HW87 := Lib.hid (hgr _ _ _ HW77.out HNR5.out.2.1)
    have HW88 := Lib.hid (hgr _ _ _ HW78.out HNR5.out.2.2)
    have HM8 := Lib.hid (HM7.out.block (hg8.block H HM7.out.lt (fun e => HC5.out.rh e.symm)))
    have HF8 := Lib.hid (HF7.out.trans hf8 HN5.out)
    have HN8 : Hid (RNew w v.ownBlock (Value.slice A8 m8 q8).ownBlock) := Lib.hid (HN5.out.trans hn8 (by have := HF7.out.size; omega))
    have HV8 := Lib.hid (HV7.out.keep hf8 hn8)
    have HVS8 : Hid (∀ p ∈ hs, ∃ s ∈ ts, p.1 = s.sum ∧ HV w8 cb H (Value.slice A8 m8 q8).ownBlock s p.2) := Lib.hid (fun p hp => by
      obtain ⟨s1, h1, h2, h3⟩ := HVS7.out p hp
      exact ⟨s1, h1, h2, h3.keep hf8 hn8⟩)
    have HR8 := Lib.hid hR8
    have HO8 : Hid (∀ g, (Value.slice A8 m8 q8).ownBlock = some g → g ≠ cb ∧ g ≠ H ∧ g ≠ w.heap.size + 1 ∧ B ≤ g ∧ g < w8.heap.size) := Lib.hid (fun g hg => by
      have l1 := HCB7.out.lt
      have l2 := HM7.out.lt
      have l3 := HW77.out.lt
      have l4 := HC5.out.cb_ge
      have l5 := HS7.out.1
      have l6 := hg8.size
      rcases hb8 with h | ⟨j, h1, h2, h3⟩
      · rw [hg] at h
        obtain ⟨r1, r2⟩ := HC5.out.rB g h.symm
        exact ⟨fun e => HC5.out.rcb (by rw [← e]; exact h.symm), fun e => HC5.out.rh (by rw [← e]; exact h.symm), fun e => HNR5.out.2.1 (by rw [← e]; exact h.symm), r1, by omega⟩
      · rw [hg] at h1
        injection h1 with h1
        exact ⟨by omega, by omega, by omega, by omega, by omega⟩)
    have hd8 : w8.cell? ⟨cb, 3, none⟩ = some v := HCB8.out.at_ rfl
    have hr8 : w8.rangeAt w.heap.size 0 (h.map V8) := HW86.out.range
    rw [HV5E.out] at hd8
    refine hK.out _ _ (fun _ => ⟨hd8, hr8⟩) ?_
    clear hK K hrun hrun' hR8 hg8 hb8 hf8 hn8 hgr HCB7 HW76 HW77 HW78 HM7 HF7 HV7 HVS7 HR7 HS7 HW7 hc7
    simp only [Act.put, List.setIfInBounds_toArray, List.set_cons_zero, List.set_cons_succ]
    refine wpLate_ready (rs := [8]) (by kernel_rfl) (by simp) ?_
    refine AllLate.cons rfl (fun K hK => ?_) AllLate.nil
    go_simp
    refine hK.out _ _ (fun _ => ⟨hd8, hr8⟩) ?_
    clear hK K
    refine wpLate_ready (rs := [9]) (by kernel_rfl) (by simp) ?_
    refine AllLate.cons rfl (fun K hK => ?_) AllLate.nil
    go_simp
    refine hK.out _ _ (fun _ => ⟨hd8, hr8⟩) ?_
    clear hK K
    have f0 := HCB8.out.free 3
    refine wpLate_ready (rs := [10]) (by kernel_rfl) (by simp) ?_
    refine AllLate.cons rfl (fun K hK => ?_) AllLate.nil
    go_simp
    refine hK.out _ _ (fun h => absurd h (by decide)) ?_
    clear hK K f0 hd8 hr8
    have HW9 := Lib.hid (HCB8.out.set 3 (.slice A8 m8 q8))
    have hk9 : ∀ k, k ≠ cb → (w8.setCell ⟨cb, 3, none⟩ (.slice A8 m8 q8)).heap[k]? = w8.heap[k]? := fun k hk => Below.heap_setCell w8 ⟨cb, 3, none⟩ (.slice A8 m8 q8) k hk
    have hs9 : (w8.setCell ⟨cb, 3, none⟩ (.slice A8 m8 q8)).heap.size = w8.heap.size := World.size_setCell _ _ _
    have HF9 : Hid (Fc cb H (Value.slice A8 m8 q8).ownBlock w8 (w8.setCell ⟨cb, 3, none⟩ (.slice A8 m8 q8))) := Lib.hid ⟨rfl, rfl, rfl, by rw [hs9]; exact Nat.le_refl _, fun k hk h1 _ _ => hk9 k h1⟩
    have HK9 := Lib.hid (And.intro hk9 hs9)
    have hcbN : w.heap.size + 1 ≠ cb ∧ g8 ≠ cb := by
      have := HC.out.whole.lt
      have := HG8.out
      exact ⟨by omega, by omega⟩
    have HW97 := Lib.hid ((hk9 _ hcbN.1).trans HW87.out)
    have hW98 := (hk9 _ hcbN.2).trans HW88.out
    have HCN := Lib.hid hcbN
    clear hk9 hs9 hcbN
    generalize w8.setCell ⟨cb, 3, none⟩ (.slice A8 m8 q8) = w9 at *
    refine wpLate_done (by kernel_rfl) ?_ _
    have hW98' : Whole w9 g8 47 X := hW98
    have HW98 := Lib.hid hW98'
    clear hW98 hW98'
    go_upto_region 8 with (fail)
    refine wp_region_lit ?_
    refine wpList_load_mid rfl 47 (.tmp 8) rfl g8 0 rfl X.toList _ HW98.out.range Tryd.underlying47 rfl (by rw [Array.length_toList, HX.out.1]; exact info64) ?_
    simp only [Act.put, List.setIfInBounds_toArray, List.set_cons_zero, List.set_cons_succ, Array.toArray_toList]
    refine wpList_store_mid rfl 47 (.tmp 6) (.tmp 47) rfl (w.heap.size + 1) 0 X rfl rfl ?_ ?_ HX.out.2.1 ?_
    · rw [HX.out.1]; have := (show Whole w9 (w.heap.size + 1) 47 Tl.z27 from HW97.out).there_; rw [Tl.z27_size] at this; exact this
    · rw [HX.out.1]; exact info64
    have HWA : Hid (Whole (w9.setCells (w.heap.size + 1) 0 X.toList) (w.heap.size + 1) 47 X) := Lib.hid ((show Whole w9 (w.heap.size + 1) 47 Tl.z27 from HW97.out).setAll (by rw [Tl.z27_size, HX.out.1]))
    have hbA : Below (w.heap.size + 1) w9 (w9.setCells (w.heap.size + 1) 0 X.toList) := below_setCells w9 (w.heap.size + 1) _ 0 (Below.refl _ _) (Nat.le_refl _)
    have hkA : ∀ k, k ≠ w.heap.size + 1 → (w9.setCells (w.heap.size + 1) 0 X.toList).heap[k]? = w9.heap[k]? := fun k hk => heap_setCells_other (w.heap.size + 1) k hk X.toList 0 w9
    have HBA := Lib.hid hbA
    have HKA := Lib.hid hkA
    have HSA : Hid ((w9.setCells (w.heap.size + 1) 0 X.toList).heap.size = w9.heap.size) := Lib.hid (size_setCells _ _ _ _)
    clear hbA hkA
    generalize w9.setCells (w.heap.size + 1) 0 X.toList = wA at *
    go_wp2_with fail
    refine bodyPost_ret (results_cell2 Tryd.results81 _ _ _ ⟨w.heap.size + 1, 0, none⟩ _ rfl (load_whole HWA.out 47 _ Tryd.underlying47 rfl (by rw [HX.out.1]; exact info64))) rfl ?_
    have hsA : w8.heap.size ≤ wA.heap.size := by rw [HSA.out, HK9.out.2]; exact Nat.le_refl _
    have hl7 := HF8.out.size
    have hFin : Fc cb H v.ownBlock w wA := by
      have f := HF8.out.trans HF9.out HN8.out
      exact ⟨HBA.out.os.trans f.os, HBA.out.tape.trans f.tape, HBA.out.output.trans f.output, by omega, fun k hk h1 h2 h3 => (HKA.out k (by omega)).trans (f.block k hk h1 h2 h3)⟩
    have hs89 : w8.heap.size ≤ w9.heap.size := by rw [HK9.out.2]; exact Nat.le_refl _
    have hs9A : w9.heap.size ≤ wA.heap.size := by rw [HSA.out]; exact Nat.le_refl _
    have hVA : ∀ s1 u, Off (w.heap.size + 1) u → HV w8 cb H (Value.slice A8 m8 q8).ownBlock s1 u → HV wA cb H (Value.slice A8 m8 q8).ownBlock s1 u := fun s1 u ho h => (h.keep HF9.out (.inl rfl)).other ho HKA.out hs9A
    have hcN := HCN.out.1
    obtain ⟨hh, hno, _⟩ := HH.out
    have hH1 := HC.out.mat.lt
    have hc5 := HC5.out
    have hperm : ((hs ++ [(h, Value.agg X)]).map (·.1)).Perm (os ++ [h]) := by
      rw [List.map_append]
      exact hc5.perm.append (List.Perm.refl _)
    have hC' : CAt wA B cb pb H room ts (hs ++ [(h, .agg X)]) (.slice A8 m8 q8) (os ++ [h]) := by
      refine ⟨(HKA.out cb (Ne.symm hcN)).trans HW9.out, (HM8.out.block (HK9.out.1 H (Ne.symm hc5.ne))).block (HKA.out H (by omega)), ?_, hc5.cb_ge, hc5.h_ge, hc5.ne, fun e => (HO8.out _ e).1 rfl, fun e => (HO8.out _ e).2.1 rfl, fun g hg => ⟨(HO8.out g hg).2.2.2.1, by have := (HO8.out g hg).2.2.2.2; omega⟩, ?_, ?_, hperm, ?_, ?_⟩
      · exact HR8.out.keepBlock (fun g hg => (HKA.out g (HO8.out g hg).2.2.1).trans (HK9.out.1 g (HO8.out g hg).1)) hsA
      · exact List.nodup_append.2 ⟨hc5.nodup, by simp, fun a ha b hb => by rw [List.mem_singleton.1 hb]; exact fun e => HNO5.out (e ▸ ha)⟩
      · intro x hx
        rcases List.mem_append.1 hx with hx | hx
        · exact hc5.len32 x hx
        · rw [List.mem_singleton.1 hx]; exact hl
      · rw [List.length_append]
        have := HL5.out
        simp
        omega
      · intro p hp
        rcases List.mem_append.1 hp with hp | hp
        · obtain ⟨s1, h1, h2, h3⟩ := HVS8.out p hp
          exact ⟨s1, h1, h2, hVA s1 p.2 (HOFF.out p (HSUB.out p hp)) h3⟩
        · rw [List.mem_singleton.1 hp]
          exact ⟨s, hs0, hh, hVA s _ (HOX.out _ (Nat.le_refl _)) HV8.out⟩
    rw [hh] at hC'
    exact ⟨.agg X, _, _, _, rfl, hC', hVA s _ (HOX.out _ (Nat.le_refl _)) HV8.out, hFin, HN8.out, fun g hg ho => ⟨HOX.out g (by omega), fun p hp => by
      rcases List.mem_append.1 hp with hp | hp
      · exact ho p (HSUB.out p hp)
      · rw [List.mem_singleton.1 hp]
        exact HOX.out g (by omega)⟩⟩
end Go.Proofs.YtolkpjbbfopmnaaDoor
namespace Go.Proofs.YtolkpjbbfopmnaaDoor
open Go.RowKit
open Tr

theorem scells_append (a b : List (List UInt8)) : scells (a ++ b) = scells a ++ scells b := by simp [scells]
/-- A row of the call's own, as a whole block. -/
theorem row_whole {w : World} {B g m c : Nat} {os : List (List UInt8)} (h : w.ownsRow B 29 32 (.slice (some ⟨g, 0, none⟩) m c) m (scells os)) : ∃ tail : List Value, Whole w g 29 (scells os ++ tail).toArray ∧ (scells os ++ tail).length = c * 32 ∧ B ≤ g ∧ m ≤ c ∧ c ≤ maxLen ∧ (scells os).length = m * 32 := by
  rcases h.2 with ⟨e, _⟩ | ⟨g', cap, cur, e, h1, h2, h3, h4, h5, h6⟩
  · cases e
  · injection e with e1 _ e3
    injection e1 with e1
    injection e1 with e1
    subst e1 e3
    have hs : scells os ++ cur.toList.drop (m * 32) = cur.toList := by rw [← h6]; exact List.take_append_drop _ _
    refine ⟨cur.toList.drop (m * 32), ?_, ?_, h1, h3, h4, h.1⟩
    · rw [hs]; exact h2
    · rw [hs, Array.length_toList]; exact h5
theorem whole_row {w : World} {B g m c : Nat} {os : List (List UInt8)} {tail : List Value} (h : Whole w g 29 (scells os ++ tail).toArray) (hl : (scells os ++ tail).length = c * 32) (hB : B ≤ g) (hm : m ≤ c) (hc : c ≤ maxLen) (ho : (scells os).length = m * 32) : w.ownsRow B 29 32 (.slice (some ⟨g, 0, none⟩) m c) m (scells os) :=
  ⟨ho, .inr ⟨g, c, _, rfl, hB, h, hm, hc, by rw [List.size_toArray]; exact hl, by rw [← ho]; simp⟩⟩
set_option maxRecDepth 100000 in
/-- copy within a row: what follows a sum goes one place ahead. -/
theorem copy_back {w : World} {g m c j j1 : Nat} {l1 l2 : List (List UInt8)} {h : List UInt8} {tail : List Value} (hw : Whole w g 29 (scells (l1 ++ h :: l2) ++ tail).toArray) (h1 : (scells l1).length = j * 32) (hh : h.length = 32) (h2 : (scells l2).length = l2.length * 32) (hj1 : j1 = j + 1) (hm : m = j1 + l2.length) (hmc : m ≤ c) {A2 : Option Addr}
    (hif : (if c = j1 then (some ⟨g, 0, none⟩ : Option Addr) else some ⟨g, j1 * 32, none⟩) = A2) (ty : TypeId) :
    ∃ (w' : World) (x32 : List Value) (v : Value), (Builtin.copy_ #[61, 61] ty #[.slice (some ⟨g, j * 32, none⟩) (m - j) (c - j), .slice A2 (m - j1) (c - j1)]).run Tryd.prog w = .ok v w' ∧ x32.length = 32 ∧ Whole w' g 29 (scells l1 ++ (scells l2 ++ (x32 ++ tail))).toArray ∧ (∀ k, k ≠ g → w'.heap[k]? = w.heap[k]?) ∧ w'.heap.size = w.heap.size ∧ Below g w w' := by
  obtain ⟨i, hi, hz, hs, hby⟩ := info_of info49f
  obtain ⟨a, ha⟩ : ∃ a, A2 = some a := by
    rw [← hif]
    split
    · exact ⟨_, rfl⟩
    · exact ⟨_, rfl⟩
  have hmin : Nat.min (m - j1) (m - j) = l2.length := by simp only [Nat.min_def]; split <;> omega
  have hsc : scells (l1 ++ h :: l2) = scells l1 ++ (h.map V8 ++ scells l2) := by rw [scells_append, scells_cons]
  have hnews : ∀ k u, (scells l2)[k]? = some u → w.cell? (a.add k) = some u := fun k u hu => by
    have hk := (List.getElem?_eq_some_iff.1 hu).1
    have hne : ¬ c = j1 := by omega
    rw [if_neg hne] at hif
    rw [ha] at hif
    injection hif with hif
    subst hif
    rw [Addr.add_mid]
    refine hw.at_ ?_
    rw [List.getElem?_toArray, hsc, List.append_assoc, List.getElem?_append_right (by omega), h1, List.append_assoc, List.getElem?_append_right (by rw [List.length_map]; omega), List.length_map, hh, List.getElem?_append_left (by omega)]
    rw [show j1 * 32 + k - j * 32 - 32 = k by omega]
    exact hu
  have hfc := run_firstCells_some (P := Tryd.prog) w 32 l2.length a (m - j1) (c - j1) (scells l2) h2 hnews
  have hlw : ∀ k, k < (scells l2).length → (w.cell? ⟨g, j * 32 + 0 + k, none⟩).isSome = true := fun k hk => by
    have hlt : j * 32 + 0 + k < (scells (l1 ++ h :: l2) ++ tail).length := by rw [hsc]; simp only [List.length_append, List.length_map]; omega
    rw [hw.at_ (v := (scells (l1 ++ h :: l2) ++ tail)[j * 32 + 0 + k]) (by rw [List.getElem?_toArray]; exact List.getElem?_eq_getElem hlt)]
    rfl
  have hst := run_storeCells_cells (P := Tryd.prog) g (j * 32) (scells l2) 0 w hlw (fun k _ => hw.free _) (scells_one l2)
  rw [Nat.add_zero] at hst
  obtain ⟨old, x32, hox, hol⟩ : ∃ old x32 : List Value, h.map V8 ++ scells l2 = old ++ x32 ∧ old.length = (scells l2).length := ⟨_, _, (List.take_append_drop (scells l2).length _).symm, by rw [List.length_take, List.length_append]; omega⟩
  have hx32 : x32.length = 32 := by
    have := congrArg List.length hox
    simp only [List.length_append, List.length_map] at this
    omega
  have hw2 : Whole w g 29 (scells l1 ++ (old ++ (x32 ++ tail))).toArray := by
    have e : scells (l1 ++ h :: l2) ++ tail = scells l1 ++ (old ++ (x32 ++ tail)) := by rw [hsc, hox]; simp
    rw [← e]; exact hw
  have hw3 := Whole.setCells (scells l2) (scells l1) old (x32 ++ tail) hw2 hol
  rw [h1] at hw3
  refine ⟨w.setCells g (j * 32) (scells l2), x32, goInt l2.length, ?_, hx32, hw3, fun k hk => heap_setCells_other g k hk _ _ _, size_setCells _ _ _ _, below_setCells w g _ _ (Below.refl _ _) (Nat.le_refl _)⟩
  · rw [ha]
    simp [Builtin.copy_, run_underlying Tryd.underlying61, Builtin.lenOf, sizeOf, typeInfo, hi, hs, hmin, hfc, hst]
theorem wpList_copy_run {ops : Array Oper} {rest : List Oper} {o : Oper} {a : Act} {w w' : World} {Q : Exit → Act → World → Prop} {v u v' : Value} (hgd : o.guard = none) (s x : Operand) (t : TypeId)
    (ho : o.op = .call { callee := .builtin .copy, args := #[s, x], argTypes := #[t, t] }) (hs : a.eval s = v) (hx : a.eval x = u) (hrun : (Builtin.copy_ #[t, t] o.type #[v, u]).run Tryd.prog w = .ok v' w') (h : wpList Tryd.prog ops Q rest (a.put o.dst v') w') :
    wpList Tryd.prog ops Q (o :: rest) a w :=
  wpList_plain hgd fun K hK => by
    unfold Oper.wp execOp
    simp only [ho, resolve, invoke, builtin, Sem.run_bind, Sem.run_pure, Result.andThen_ok, List.map_toArray, List.map_cons, List.map_nil, hs, hx, hrun]
    exact hK _ _ h
def FreshPost (w : World) (B cb pb H room : Nat) (ts : List T) (hs : List (List UInt8 × Value)) (v : Value) (h : List UInt8) (e : Ending) (w' : World) : Prop :=
  e = .returned undef ∧ ∃ os', CAt w' B cb pb H room ts hs v (os' ++ [h]) ∧ Fc cb H v.ownBlock w w'
set_option maxRecDepth 100000 in
set_option maxHeartbeats 1000000 in
theorem cache_freshen (B cb pb H room : Nat) (ts : List T) (hs : List (List UInt8 × Value)) (v : Value) (os : List (List UInt8)) (h : List UInt8) (w : World) (hc : CAt w B cb pb H room ts hs v os) (hroom : room ≤ 4096) (hin : h ∈ os) :
    Calls Tryd.prog 80 #[.pointer (some ⟨cb, 0, none⟩), .agg (Sh.bcells h)] w (FreshPost w B cb pb H room ts hs v h) := by
  obtain ⟨l1, l2, hos⟩ := List.append_of_mem hin
  subst hos
  have hnd := hc.nodup
  have h32 := hc.len32
  have hfew := hc.few
  have hrow := hc.row
  have hown : w.ownsRow B 29 32 v (l1 ++ h :: l2).length (scells (l1 ++ h :: l2)) := by
    rcases hrow with h | ⟨h, _⟩
    · exact h
    · simp at h
  obtain ⟨g, c, rfl, hgB, hlt⟩ := hown.form (by simp; omega)
  obtain ⟨tail, hW, hWl, -, hmc, hcm, hsl⟩ := row_whole hown
  have hl : h.length = 32 := h32 h (by simp)
  obtain ⟨m, hm⟩ : ∃ m, m = (l1 ++ h :: l2).length := ⟨_, rfl⟩
  have hm1 : 1 ≤ m ∧ m ≤ 4096 := by rw [hm]; simp at hfew ⊢; omega
  have HHC := Lib.hid hc
  have hcw := hc.whole
  rw [← hm] at hcw hmc hsl ⊢
  have hb0 : Below w.heap.size w (w.alloc (.cells (Sh.bcells h) 29)) := (Below.refl _ _).alloc (Nat.le_refl _) _
  have hw0 := Whole.made w 29 (Sh.bcells h)
  have HW0 := Lib.hid hw0
  have HB0 := Lib.hid hb0
  have HCW0 : Hid (Whole (w.alloc (.cells (Sh.bcells h) 29)) cb 122 #[.pointer (some ⟨pb, 0, none⟩), .int .i64 room, .map (some H), .slice (some ⟨g, 0, none⟩) m c]) := Lib.hid (hcw.below hb0 hcw.lt)
  have hc30 := HCW0.out.at_ (i := 3) rfl
  have HWG := Lib.hid hW
  have HL := Lib.hid (And.intro hWl (And.intro hgB (And.intro hmc (And.intro hcm hsl))))
  have HM := Lib.hid hm
  have HN := Lib.hid (And.intro hnd h32)
  have HLT := Lib.hid hlt
  clear hc hnd h32 hfew hrow hown hW hWl hgB hmc hcm hsl hm hcw hw0 hb0 hlt hin
  go_enter Tryd.func80, Tryd.ntmps80
  go_upto_region 1 with (fail)
  generalize w.alloc (.cells (Sh.bcells h) 29) = w0 at *
  obtain ⟨last, hlast⟩ : ∃ q, q = m - 1 := ⟨_, rfl⟩
  have hwl : IntKind.i64.wrap ((m : Int) - 1) = (last : Int) := by
    have e : ((m : Int) - 1) = (last : Int) := by omega
    rw [e]
    exact IntWalk.i64_in _ (by omega)
  have HLA := Lib.hid hlast
  clear hlast
  go_wp2_with fail
  clear hwl
  go_loopg [5] (last - l1.length) (fun gk i wx => ∃ k : Nat, k = l1.length + gk ∧ k ≤ last ∧ i = .int .i64 k ∧ Below w0.heap.size w0 wx)
  case atStart => exact ⟨last, by have h1 := HM.out; have h2 := HLA.out; simp at h1; omega, Nat.le_refl _, rfl, Below.refl _ _⟩
  case round =>
    obtain ⟨k, hk, hkl, rfl, hb⟩ := hrel
    have hbw : Below w.heap.size w wr := HB0.out.trans (hb.mono HB0.out.size)
    have hkm : k < m := by have := HLA.out; omega
    obtain ⟨xk, hxk⟩ : ∃ xk, (l1 ++ h :: l2)[k]? = some xk := ⟨_, List.getElem?_eq_getElem (by rw [← HM.out]; exact hkm)⟩
    have hx32 : xk.length = 32 := HN.out.2 xk (List.mem_of_getElem? hxk)
    have hWr := HWG.out.below hbw HLT.out
    have hrk : wr.drew.rangeAt g (k * 32) (xk.map V8) := fun j u hu => by
      rw [List.getElem?_map, Option.map_eq_some_iff] at hu
      obtain ⟨b, hb1, rfl⟩ := hu
      have h1 := scells_range HN.out.2 hxk j b hb1
      refine hWr.at_ ?_
      rw [List.getElem?_toArray, List.getElem?_append_left (List.getElem?_eq_some_iff.1 h1).1]
      exact h1
    have hrh : wr.drew.rangeAt w.heap.size 0 (h.map V8) := (HW0.out.below hb HW0.out.lt).range
    have c3 : wr.drew.cell? ⟨cb, 3, none⟩ = some (.slice (some ⟨g, 0, none⟩) m c) := (HCW0.out.below hb HCW0.out.lt).at_ rfl
    have heq : ∀ u : World, (Op.equalIn 10000 29 (.agg (xk.map V8).toArray) (.agg (h.map V8).toArray)).run Tryd.prog u = .ok (xk == h) u := fun u => run_eq49 xk h hx32 hl u
    have HRK := Lib.hid hrk
    have HRH := Lib.hid hrh
    have HI2 : Hid ((Tryd.prog.info? 29).map (·.size) = some (xk.map V8).length) := Lib.hid (by rw [List.length_map, hx32]; exact info49)
    have HI1 : Hid ((Tryd.prog.info? 29).map (·.size) = some (h.map V8).length) := Lib.hid (by rw [List.length_map, hl]; exact info49)
    have HB := Lib.hid hb
    have HBW := Lib.hid hbw
    have HXK := Lib.hid hxk
    have HKG := Lib.hid hk
    have HWR := Lib.hid hWr
    clear hrk hrh hb hbw hxk hk hWr
    cases gk with
    | zero =>
      have hxh : xk = h := by
        have h1 := HXK.out
        have h2 := HKG.out
        rw [Nat.add_zero] at h2
        rw [h2, List.getElem?_append_right (Nat.le_refl _), Nat.sub_self] at h1
        simp at h1
        exact h1.symm
      rw [hxh, beq_self_eq_true] at heq
      subst hxh
      go_upto_region 5 with (fail)
      refine wp_region_still_lit (by kernel_rfl) (by kernel_rfl) ?_
      change wpStill _ _ wr.drew _ _ _
      still_step
      still_step
      still_step
      still_step
      still_step
      still_step
      refine Sh.wpStill_load_mid rfl 29 (.tmp 22) rfl g (k * 32) ?_ (xk.map V8) (.array 32 5) HRK.out Tryd.underlying29 rfl HI2.out ?_
      · rfl
      go_simp
      refine Sh.wpStill_load_mid rfl 29 (.tmp 3) rfl w.heap.size 0 ?_ (xk.map V8) (.array 32 5) HRH.out Tryd.underlying29 rfl HI1.out ?_
      · rfl
      go_simp
      repeat still_step
      refine wpStill_nil ?_
      have HWR5 : Hid (Whole wr.drew g 29 (scells (l1 ++ xk :: l2) ++ tail).toArray) := Lib.hid HWR.out
      have HCW5 : Hid (Whole wr.drew cb 122 #[.pointer (some ⟨pb, 0, none⟩), .int .i64 room, .map (some H), .slice (some ⟨g, 0, none⟩) m c]) := Lib.hid (HCW0.out.below HB.out.drew HCW0.out.lt)
      have HWH5 : Hid (Whole wr.drew w.heap.size 29 (Sh.bcells xk)) := Lib.hid (HW0.out.below HB.out.drew HW0.out.lt)
      have HBW5 := Lib.hid HBW.out.drew
      clear HRK HRH HB HBW HWR c3
      generalize wr.drew = w5 at *
      go_upto_region 6 with (fail)
      clear heq
      have c6 : w5.drew.cell? ⟨cb, 3, none⟩ = some (.slice (some ⟨g, 0, none⟩) m c) := HCW5.out.at_ rfl
      obtain ⟨k1, hk1⟩ : ∃ q, q = k + 1 := ⟨_, rfl⟩
      have hw1 : IntKind.i64.wrap ((k : Int) + 1) = (k1 : Int) := by
        have e : (k : Int) + 1 = (k1 : Int) := by omega
        rw [e]
        exact IntWalk.i64_in _ (by omega)
      have hkI : (k : Int) ≤ (m : Int) := by omega
      have hk1I : (k1 : Int) ≤ (m : Int) := by omega
      obtain ⟨hWl, hgB, hmc, hcm, hsl⟩ := HL.out
      have hck : ¬ c = k := by omega
      obtain ⟨A2, hif⟩ : ∃ A', (if c = k1 then (some ⟨g, 0, none⟩ : Option Addr) else some ⟨g, k1 * 32, none⟩) = A' := ⟨_, rfl⟩
      have hml : m = k1 + l2.length := by have h1 := HM.out; have h2 := HKG.out; simp at h1; omega
      have h1s : (scells l1).length = k * 32 := by
        rw [scells_len l1 (fun x hx => HN.out.2 x (by simp [hx]))]
        have := HKG.out
        omega
      have h2s : (scells l2).length = l2.length * 32 := scells_len l2 (fun x hx => HN.out.2 x (by simp [hx]))
      obtain ⟨w6, x32, vc, hrun, hx32, hW6, hk6, hs6, hb6⟩ := copy_back (w := w5.drew) (ty := 3) HWR5.out h1s hl h2s hk1 hml hmc hif
      have HK6 := Lib.hid (And.intro hk6 (And.intro hs6 hb6))
      have HW6 := Lib.hid hW6
      have HS := Lib.hid (And.intro h1s (And.intro h2s (And.intro hml hx32)))
      have HK1 := Lib.hid hk1
      clear hk6 hs6 hb6 hW6 h1s h2s hml hx32 hk1 hWl hgB hcm hsl
      have hmc2 : m ≤ c := hmc
      go_still_tail 13, (by kernel_rfl)
      change wpList _ _ _ _ _ w5.drew
      refine wpList_copy_run rfl (.tmp 31) (.tmp 38) 61 rfl rfl rfl hrun ?_
      obtain ⟨hk6, hs6, hb6⟩ := HK6.out
      have hgcb : g ≠ cb := fun e => HHC.out.rcb (by rw [e]; rfl)
      have hgh : g ≠ H := fun e => HHC.out.rh (by rw [e]; rfl)
      have hgw : w.heap.size ≠ g := by have := HLT.out; omega
      have HCW6 : Hid (Whole w6 cb 122 #[.pointer (some ⟨pb, 0, none⟩), .int .i64 room, .map (some H), .slice (some ⟨g, 0, none⟩) m c]) := Lib.hid ((hk6 cb (Ne.symm hgcb)).trans HCW5.out)
      have hWH6 : Whole w6.drew w.heap.size 29 (Sh.bcells xk) := (hk6 _ hgw).trans HWH5.out
      have HRH6 : Hid (w6.drew.rangeAt w.heap.size 0 (xk.map V8)) := Lib.hid hWH6.range
      have hFin : ∀ w9 : World, w9.os = w6.os → w9.tape = w6.tape → w9.output = w6.output → w9.heap.size = w6.heap.size → (∀ k, k ≠ g → w9.heap[k]? = w6.heap[k]?) → Fc cb H (some g) w w9 ∧ w9.heap[cb]? = w6.heap[cb]? ∧ w9.heap[H]? = w.heap[H]? ∧ w.heap.size ≤ w9.heap.size := fun w9 a1 a2 a3 a4 a5 => by
        have hbb := HBW5.out
        have hsz := hbb.size
        have hs6' : w6.heap.size = w5.heap.size := hs6
        refine ⟨⟨a1.trans (hb6.os.trans hbb.os), a2.trans (hb6.tape.trans hbb.tape), a3.trans (hb6.output.trans hbb.output), by omega, fun q hq q1 q2 q3 => ?_⟩, a5 cb (Ne.symm hgcb), ?_, by omega⟩
        · have hqg : q ≠ g := fun e => q3 (by rw [e])
          exact (a5 q hqg).trans ((hk6 q hqg).trans (hbb.block q hq))
        · exact (a5 H (Ne.symm hgh)).trans ((hk6 H (Ne.symm hgh)).trans (hbb.block H HHC.out.mat.lt))
      have HFIN := Lib.hid hFin
      clear hrun hif hw1 hkI hk1I hck c6 hk6 hs6 hb6 hWH6 hFin HK6 HCW5 HWH5 HWR5
      go_upto_region 7 with (fail)
      have c7 : w6.drew.cell? ⟨cb, 3, none⟩ = some (.slice (some ⟨g, 0, none⟩) m c) := HCW6.out.at_ rfl
      have hlm : last < m := by have := HLA.out; omega
      go_still_tail 7, (by kernel_rfl)
      change wpStill _ _ w6.drew _ _ _
      refine Sh.wpStill_load_mid rfl 29 (.tmp 3) rfl w.heap.size 0 ?_ (xk.map V8) (.array 32 5) HRH6.out Tryd.underlying29 rfl HI1.out ?_
      · rfl
      go_simp
      still_step
      refine wpStill_nil ?_
      change wpList _ _ _ _ _ w6.drew
      obtain ⟨h1s, h2s, hml, hx32⟩ := HS.out
      have hk1 := HK1.out
      have hlast : (scells l1 ++ scells l2).length = last * 32 := by
        rw [List.length_append]
        have := HLA.out
        omega
      have hW6 : Whole w6.drew g 29 ((scells l1 ++ scells l2) ++ (x32 ++ tail)).toArray := by
        have e : (scells l1 ++ scells l2) ++ (x32 ++ tail) = scells l1 ++ (scells l2 ++ (x32 ++ tail)) := by simp
        rw [e]; exact HW6.out
      have hW7 := Whole.setCells (xk.map V8) (scells l1 ++ scells l2) x32 tail hW6 (by rw [List.length_map, hl]; exact hx32)
      rw [hlast] at hW7
      refine wpList_store_mid rfl 29 (.tmp 46) (.tmp 45) rfl g (last * 32) (xk.map V8).toArray rfl rfl ?_ ?_ (Sh.bcells_one xk) ?_
      · refine hW6.midthere (last * 32) _ ?_
        rw [List.size_toArray, List.size_toArray, List.length_append, hlast, List.length_append, List.length_map, hl]
        omega
      · rw [List.size_toArray]; exact HI1.out
      have hk7 : ∀ k, k ≠ g → (w6.drew.setCells g (last * 32) (xk.map V8)).heap[k]? = w6.heap[k]? := fun k hk => heap_setCells_other g k hk _ _ _
      have hs7 : (w6.drew.setCells g (last * 32) (xk.map V8)).heap.size = w6.heap.size := size_setCells _ _ _ _
      have hb7 : Below g w6 (w6.drew.setCells g (last * 32) (xk.map V8)) := below_setCells w6 g _ _ (Below.refl _ _).drew (Nat.le_refl _)
      have HF7 := Lib.hid (HFIN.out _ hb7.os hb7.tape hb7.output hs7 hk7)
      have HW7 := Lib.hid hW7
      clear hk7 hs7 hb7 hW7 hW6 c7
      simp only []
      generalize w6.drew.setCells g (last * 32) (xk.map V8) = w7 at *
      go_wp2_with fail
      refine bodyPost_ret (results_none rfl _ _ _) rfl ?_
      obtain ⟨hF, hcb7, hH7, hsz7⟩ := HF7.out
      have hC := HHC.out
      have hos' : scells (l1 ++ l2 ++ [xk]) ++ tail = scells l1 ++ scells l2 ++ (xk.map V8 ++ tail) := by
        rw [scells_snoc, scells_append]; simp
      have hp : (l1 ++ l2 ++ [xk]).Perm (l1 ++ xk :: l2) := (List.perm_append_singleton xk (l1 ++ l2)).trans List.perm_middle.symm
      have hlen : (l1 ++ l2 ++ [xk]).length = m := by rw [hp.length_eq]; exact HM.out.symm
      obtain ⟨hWl, hgB, -, hcm, hsl⟩ := HL.out
      have hslen : (scells (l1 ++ l2 ++ [xk])).length = m * 32 := by
        rw [scells_len _ (fun x hx => HN.out.2 x (hp.subset hx)), hlen]
      have hm2 := HM.out
      rw [← hm2] at hC
      refine ⟨rfl, l1 ++ l2, ⟨hcb7.trans HCW6.out, hC.mat.block hH7, .inl ?_, hC.cb_ge, hC.h_ge, hC.ne, hC.rcb, hC.rh, fun q hq => ⟨(hC.rB q hq).1, by have := (hC.rB q hq).2; omega⟩, hp.nodup_iff.2 hC.nodup, fun x hx => hC.len32 x (hp.subset hx), hC.perm.trans hp.symm, ?_, fun p hp1 => ?_⟩, hF⟩
      · rw [hlen]
        refine whole_row (tail := tail) ?_ ?_ hgB hmc2 hcm hslen
        · rw [hos']; exact HW7.out
        · rw [List.length_append, hslen]
          rw [List.length_append, hsl] at hWl
          exact hWl
      · rw [hlen]; have := hC.few; rw [← hm2] at this; exact this
      · obtain ⟨s1, q1, q2, q3⟩ := hC.vals p hp1
        exact ⟨s1, q1, q2, q3.keep hF (.inl rfl)⟩
    | succ gn =>
      have hne : (xk == h) = false := by
        rw [beq_eq_false_iff_ne]
        rintro rfl
        have h2 : (l1 ++ xk :: l2)[l1.length]? = some xk := by simp
        have := (List.getElem?_inj (by rw [← HM.out]; exact hkm) HN.out.1).1 (HXK.out.trans h2.symm)
        have := HKG.out
        omega
      rw [hne] at heq
      have hk1 : IntKind.i64.wrap ((k : Int) - 1) = ((k - 1 : Nat) : Int) := by
        have := HKG.out
        have e : (k : Int) - 1 = ((k - 1 : Nat) : Int) := by omega
        rw [e]
        exact IntWalk.i64_in _ (by omega)
      go_upto_region 5 with (fail)
      refine wp_region_still_lit (by kernel_rfl) (by kernel_rfl) ?_
      change wpStill _ _ wr.drew _ _ _
      still_step
      still_step
      still_step
      still_step
      still_step
      still_step
      refine Sh.wpStill_load_mid rfl 29 (.tmp 22) rfl g (k * 32) ?_ (xk.map V8) (.array 32 5) HRK.out Tryd.underlying29 rfl HI2.out ?_
      · rfl
      go_simp
      refine Sh.wpStill_load_mid rfl 29 (.tmp 3) rfl w.heap.size 0 ?_ (h.map V8) (.array 32 5) HRH.out Tryd.underlying29 rfl HI1.out ?_
      · rfl
      go_simp
      repeat still_step
      refine wpStill_nil ?_
      go_wp2_with fail
      go_roundg gn
      case measure => omega
      case rel => exact ⟨k - 1, by have := HKG.out; omega, by omega, rfl, HB.out.drew⟩
end Go.Proofs.YtolkpjbbfopmnaaDoor
namespace Go.Proofs.YtolkpjbbfopmnaaDoor
open Go.RowKit
open Tr

theorem acells_ok {kv vv : Value} {A n c A' n' c'} {h : Int} {z : Nat} {l r : List UInt8} (_ : kv = .slice A n c) (_ : vv = .slice A' n' c') (hl : l.length = 32) (hr : r.length = 32) : (acells kv vv h z l r).toArray.size = 68 ∧ (acells kv vv h z l r).toArray.all (·.oneCell') = true := by
  subst_vars
  exact ⟨by rw [List.size_toArray]; exact acells_len _ _ _ _ _ _ hl hr, Tl.acells_one _ _ _ _ _ _ _ _ _ _⟩
theorem CAt.nvals {w : World} {B cb pb H room : Nat} {ts : List T} {hs : List (List UInt8 × Value)} {v : Value} {os : List (List UInt8)} (h : CAt w B cb pb H room ts hs v os) : NVals hs := fun p hp => by
  obtain ⟨s, _, _, A, n, c, A', n', c', e, _⟩ := h.vals p hp
  obtain ⟨h1, h2⟩ := acells_ok (h := s.h) (z := s.n) (rfl : Value.slice A n c = _) (rfl : Value.slice A' n' c' = _) (lsum32 s) (rsum32 s)
  exact ⟨_, e, h1, h2⟩
theorem look_mem {ms : List (List UInt8 × Value)} {h : List UInt8} {u : Value} (hv : MAt.look ms h = some u) : (h, u) ∈ ms := by
  unfold MAt.look at hv
  obtain ⟨p, hp, rfl⟩ := Option.map_eq_some_iff.1 hv
  have h1 := List.mem_of_find?_eq_some hp
  have h2 : p.1 = h := by simpa using List.find?_some hp
  subst h2
  exact h1
theorem Fc.below {cb H B : Nat} {r : Option Nat} {w w' : World} (h : Fc cb H r w w') (hc : B ≤ cb) (hh : B ≤ H) (hr : ∀ g, r = some g → B ≤ g) (hB : B ≤ w.heap.size) : Below B w w' :=
  ⟨h.os, h.tape, h.output, h.size, fun k hk => h.block k (by omega) (by omega) (by omega) (fun e => by have := hr k e; omega)⟩
theorem CAt.other {w w' : World} {B cb pb H room g : Nat} {ts : List T} {hs : List (List UInt8 × Value)} {v : Value} {os : List (List UInt8)} (h : CAt w B cb pb H room ts hs v os) (h1 : g ≠ cb) (h2 : g ≠ H) (h3 : v.ownBlock ≠ some g) (ho : ∀ p ∈ hs, Off g p.2) (hk : ∀ k, k ≠ g → w'.heap[k]? = w.heap[k]?) (hs' : w.heap.size ≤ w'.heap.size) : CAt w' B cb pb H room ts hs v os :=
  ⟨(hk cb (Ne.symm h1)).trans h.whole, h.mat.block (hk H (Ne.symm h2)), h.row.keepBlock (fun q hq => hk q (fun e => h3 (by rw [← e]; exact hq))) hs', h.cb_ge, h.h_ge, h.ne, h.rcb, h.rh, fun q hq => ⟨(h.rB q hq).1, Nat.lt_of_lt_of_le (h.rB q hq).2 hs'⟩, h.nodup, h.len32, h.perm, h.few, fun p hp => by
    obtain ⟨s, q1, q2, q3⟩ := h.vals p hp
    exact ⟨s, q1, q2, q3.other (ho p hp) hk hs'⟩⟩
theorem HV.arr {w : World} {cb H : Nat} {r : Option Nat} {s : T} {u : Value} (h : HV w cb H r s u) : ∃ X : Array Value, u = .agg X ∧ X.size = 68 ∧ X.all (·.oneCell') = true := by
  obtain ⟨A, n, c, A', n', c', e, _⟩ := h
  obtain ⟨h1, h2⟩ := acells_ok (h := s.h) (z := s.n) (rfl : Value.slice A n c = _) (rfl : Value.slice A' n' c' = _) (lsum32 s) (rsum32 s)
  exact ⟨_, e, h1, h2⟩

/-- What read returns: a node of the trees that has the sum. -/
def ReadPost (w : World) (B cb pb H room : Nat) (ts : List T) (hs : List (List UInt8 × Value)) (r : Option Nat) (h : List UInt8) (e : Ending) (w' : World) : Prop :=
  ∃ s1 ∈ ts, s1.sum = h ∧ TakePost w B cb pb H room ts hs r s1 e w'
set_option maxRecDepth 100000 in
set_option maxHeartbeats 1000000 in
theorem cache_read (B cb pb H room : Nat) (ts : List T) (hs : List (List UInt8 × Value)) (v : Value) (os : List (List UInt8)) (s : T) (hs0 : s ∈ ts) (M : Nat) (ms : List (List UInt8 × Value)) (v0 : Value) (w : World) (hc : CAt w B cb pb H room ts hs v os) (hroom : room ≤ 4096) (hr1 : 1 ≤ room)
    (hB : BAt w pb M ms) (hV : NVals ms) (hvn : s.sum ∉ os → MAt.look ms s.sum = some v0 ∧ NodeV w 0 s v0) (htn : s.n ≤ 64) (hk : 1 ≤ s.key.length) :
    Calls Tryd.prog 59 #[.pointer (some ⟨cb, 0, none⟩), .agg (Sh.bcells s.sum)] w (ReadPost w B cb pb H room ts hs v.ownBlock s.sum) := by
  have hz64 := zero64
  obtain ⟨h, hh⟩ : ∃ h, h = s.sum := ⟨_, rfl⟩
  have hl : h.length = 32 := by rw [hh]; exact sum32 s
  obtain ⟨X, is, hX, hone, hrun, hyes, hno⟩ := look_case (M := H) hc.nvals h hl
  have HBY := Lib.hid (And.intro hB (And.intro hV (And.intro hvn (And.intro htn hk))))
  have HYN := Lib.hid (And.intro hyes hno)
  clear hB hV hvn htn hk hyes hno
  have hb0 : Below w.heap.size w ((w.alloc (.cells (Sh.bcells h) 29)).alloc (.cells z64 47)) := ((Below.refl _ _).alloc (Nat.le_refl _) _).alloc (by simp) _
  have hw4 := (Whole.made w 29 (Sh.bcells h)).alloc (.cells z64 47)
  have hw6 := Whole.made (w.alloc (.cells (Sh.bcells h) 29)) 47 z64
  have hsz : ((w.alloc (.cells (Sh.bcells h) 29)).alloc (.cells z64 47)).heap.size = w.heap.size + 2 := by simp
  rw [size_alloc] at hw6
  rw [← hh]
  have HC := Lib.hid hc
  have HH := Lib.hid hh
  have hC1 := hc.below hb0
  have HC1 := Lib.hid hC1
  have HB0 := Lib.hid hb0
  have HW4 := Lib.hid hw4
  have HW6 := Lib.hid hw6
  have HSZ := Lib.hid hsz
  have cb2 : ((w.alloc (.cells (Sh.bcells h) 29)).alloc (.cells z64 47)).cell? ⟨cb, 2, none⟩ = some (.map (some H)) := hC1.whole.at_ rfl
  have hcb1 : cb < ((w.alloc (.cells (Sh.bcells h) 29)).alloc (.cells z64 47)).heap.size := hC1.whole.lt
  have HRUN := Lib.hid (fun (u : World) (hbu : Below ((w.alloc (.cells (Sh.bcells h) 29)).alloc (.cells z64 47)).heap.size ((w.alloc (.cells (Sh.bcells h) 29)).alloc (.cells z64 47)) u) => hrun u (hC1.below hbu).mat)
  change Hid (∀ (u : World), Below ((w.alloc (.cells (Sh.bcells h) 29)).alloc (.cells z64 47)).heap.size ((w.alloc (.cells (Sh.bcells h) 29)).alloc (.cells z64 47)) u → (Instr.lookup 94 (.map (some H)) (.agg (h.map V8).toArray) true).run Tryd.prog u = .ok (.tuple #[.agg X, .bool is]) u) at HRUN
  have HI : Hid ((Tryd.prog.info? 29).map (·.size) = some (h.map V8).length) := Lib.hid (by rw [List.length_map, hl]; exact info49)
  have HRG : Hid (((w.alloc (.cells (Sh.bcells h) 29)).alloc (.cells z64 47)).rangeAt w.heap.size 0 (h.map V8)) := Lib.hid hw4.range
  clear hc hh hC1 hb0 hw4 hw6 hsz hrun
  go_enter Tryd.func59, Tryd.ntmps59
  go_upto_region 1 with (fail)
  generalize (w.alloc (.cells (Sh.bcells h) 29)).alloc (.cells z64 47) = w1 at *
  have hg0 : w.heap.size < w1.heap.size := HW4.out.lt
  have hS0 : w1.drew.cell? ⟨cb, 2, none⟩ = some (.map (some H)) ∧ w1.drew.rangeAt w.heap.size 0 (h.map V8) ∧ (Instr.lookup 94 (.map (some H)) (.agg (h.map V8).toArray) true).run Tryd.prog w1.drew = .ok (.tuple #[.agg X, .bool is]) w1.drew := ⟨cb2, HRG.out, HRUN.out w1.drew (Below.refl _ _).drew⟩
  refine wp_region_held_drew (S := fun u => u.cell? ⟨cb, 2, none⟩ = some (.map (some H)) ∧ u.rangeAt w.heap.size 0 (h.map V8) ∧ (Instr.lookup 94 (.map (some H)) (.agg (h.map V8).toArray) true).run Tryd.prog u = .ok (.tuple #[.agg X, .bool is]) u) (by kernel_rfl) hS0 (fun hHeld => ?_)
  refine wpAnyH_take (i := 0) (oi := { dst := some 11, op := Op.move (Operand.tmp 0), type := 64, pos := "cache.go:87", after := #[], guard := none }) (v := ?_) rfl (by kernel_rfl) (by kernel_rfl) (by kernel_rfl) (fun _ _ _ h => h) (Or.inl ⟨by rfl, ?_⟩) (by assumption) ?_
  rotate_left
  · first | (intro w hSw; (try dsimp only at hSw); go_simp; done) | (intro w hSw; (try dsimp only at hSw); go_simp; with_reducible rfl)
  simp only [Act.put, List.setIfInBounds_toArray, List.set_cons_zero, List.set_cons_succ]
  refine wpAnyH_take (i := 1) (oi := { dst := some 12, op := Op.nilCheck (Operand.tmp 11), type := 0, pos := "cache.go:87", after := #[{ on := 0, ground := Ground.data }], guard := none }) (v := ?_) rfl (by kernel_rfl) (by kernel_rfl) (by kernel_rfl) (fun _ _ _ h => h) (Or.inl ⟨by rfl, ?_⟩) (by assumption) ?_
  rotate_left
  · first | (intro w hSw; (try dsimp only at hSw); go_simp; done) | (intro w hSw; (try dsimp only at hSw); go_simp; with_reducible rfl)
  simp only [Act.put, List.setIfInBounds_toArray, List.set_cons_zero, List.set_cons_succ]
  refine wpAnyH_take (i := 2) (oi := { dst := some 13, op := Op.fieldAddr 122 (Operand.tmp 12) 2, type := 0, pos := "cache.go:87", after := #[{ on := 1, ground := Ground.data }], guard := none }) (v := ?_) rfl (by kernel_rfl) (by kernel_rfl) (by kernel_rfl) (fun _ _ _ h => h) (Or.inl ⟨by rfl, ?_⟩) (by assumption) ?_
  rotate_left
  · first | (intro w hSw; (try dsimp only at hSw); go_simp; done) | (intro w hSw; (try dsimp only at hSw); go_simp; with_reducible rfl)
  simp only [Act.put, List.setIfInBounds_toArray, List.set_cons_zero, List.set_cons_succ]
  refine wpAnyH_take (i := 3) (oi := { dst := some 14, op := Op.load 94 (Operand.tmp 13), type := 94, pos := "cache.go:87", after := #[{ on := 2, ground := Ground.data }], guard := none }) (v := ?_) rfl (by kernel_rfl) (by kernel_rfl) (by kernel_rfl) (fun _ _ _ h => h) (Or.inl ⟨by rfl, ?_⟩) (by assumption) ?_
  rotate_left
  · first | (intro w hSw; (try dsimp only at hSw); go_simp; done) | (intro w hSw; (try dsimp only at hSw); go_simp; with_reducible rfl)
  simp only [Act.put, List.setIfInBounds_toArray, List.set_cons_zero, List.set_cons_succ]
  refine wpAnyH_take (i := 4) (oi := { dst := some 15, op := Op.load 29 (Operand.tmp 3), type := 29, pos := "cache.go:87", after := #[], guard := none }) (v := .agg (h.map V8).toArray) rfl (by kernel_rfl) (by kernel_rfl) (by kernel_rfl) (fun _ _ _ h => h) (yieldsIf_load_mid (by rfl) 29 (.tmp 3) rfl w.heap.size 0 rfl (h.map V8) _ (fun _ h => h.2.1) Tryd.underlying29 rfl HI.out) (by assumption) ?_
  simp only [Act.put, List.setIfInBounds_toArray, List.set_cons_zero, List.set_cons_succ]
  refine wpAnyH_take (i := 5) (oi := { dst := some 16, op := Op.lookup 94 (Operand.tmp 14) (Operand.tmp 15) true, type := 74, pos := "cache.go:87", after := #[{ on := 3, ground := Ground.data }, { on := 4, ground := Ground.data }], guard := none }) (v := ?_) rfl (by kernel_rfl) (by kernel_rfl) (by kernel_rfl) (fun _ _ _ h => h) (Or.inl ⟨by rfl, ?_⟩) (by assumption) ?_
  rotate_left
  · first | (intro w hSw; (try dsimp only at hSw); go_simp; done) | (intro w hSw; (try dsimp only at hSw); go_simp; with_reducible rfl)
  simp only [Act.put, List.setIfInBounds_toArray, List.set_cons_zero, List.set_cons_succ]
  refine wpAnyH_take (i := 6) (oi := { dst := some 10, op := Op.move (Operand.tmp 16), type := 74, pos := "cache.go:87", after := #[{ on := 5, ground := Ground.data }], guard := none }) (v := ?_) rfl (by kernel_rfl) (by kernel_rfl) (by kernel_rfl) (fun _ _ _ h => h) (Or.inl ⟨by rfl, ?_⟩) (by assumption) ?_
  rotate_left
  · first | (intro w hSw; (try dsimp only at hSw); go_simp; done) | (intro w hSw; (try dsimp only at hSw); go_simp; with_reducible rfl)
  simp only [Act.put, List.setIfInBounds_toArray, List.set_cons_zero, List.set_cons_succ]
  refine wpAnyH_take (i := 7) (oi := { dst := some 17, op := Op.extract (Operand.tmp 10) 0, type := 47, pos := "cache.go:87", after := #[{ on := 6, ground := Ground.data }], guard := none }) (v := ?_) rfl (by kernel_rfl) (by kernel_rfl) (by kernel_rfl) (fun _ _ _ h => h) (Or.inl ⟨by rfl, ?_⟩) (by assumption) ?_
  rotate_left
  · first | (intro w hSw; (try dsimp only at hSw); go_simp; done) | (intro w hSw; (try dsimp only at hSw); go_simp; with_reducible rfl)
  simp only [Act.put, List.setIfInBounds_toArray, List.set_cons_zero, List.set_cons_succ]
  refine wpAnyH_take (i := 8) (oi := { dst := some 18, op := Op.extract (Operand.tmp 10) 1, type := 4, pos := "cache.go:87", after := #[{ on := 6, ground := Ground.data }, { on := 10, ground := Ground.gcOnly Departure.lateStores }], guard := none }) (v := ?_) rfl (by kernel_rfl) (by kernel_rfl) (by kernel_rfl) (fun _ _ _ h => h) (Or.inl ⟨by rfl, ?_⟩) (by assumption) ?_
  rotate_left
  · first | (intro w hSw; (try dsimp only at hSw); go_simp; done) | (intro w hSw; (try dsimp only at hSw); go_simp; with_reducible rfl)
  simp only [Act.put, List.setIfInBounds_toArray, List.set_cons_zero, List.set_cons_succ]
  refine wpAnyH_ready (rs := [9]) (by kernel_rfl) (by simp) ?_
  refine AllReadyH.cons (o := { dst := some 6, op := Op.alloc 47, type := 0, pos := "cache.go:87", after := #[], guard := none }) rfl (fun K hK => ?_) AllReadyH.nil
  go_simp
  have hb2 : Below w1.heap.size w1 (w1.alloc (.cells z64 47)).drew := ((Below.refl _ _).alloc (Nat.le_refl _) _).drew
  have hw2 : Whole (w1.alloc (.cells z64 47)).drew w1.heap.size 47 z64 := Whole.made w1 47 z64
  refine hK.out _ _ ⟨(hb2.cell (p := ⟨cb, 2, none⟩) hcb1).trans cb2, range_keep HRG.out hb2 hg0, HRUN.out _ hb2⟩ (fun _ => ?_)
  clear hK K hHeld hS0 hz64
  refine wpAnyH_ready (rs := [10]) (by kernel_rfl) (by simp) ?_
  refine AllReadyH.cons (o := { dst := none, op := Op.store 47 (Operand.tmp 6) (Operand.tmp 17), type := 0, pos := "cache.go:87", after := #[{ on := 9, ground := Ground.data }, { on := 7, ground := Ground.data }, { on := 0, ground := Ground.phase }, { on := 1, ground := Ground.phase }, { on := 2, ground := Ground.phase }, { on := 3, ground := Ground.phase }, { on := 4, ground := Ground.phase }, { on := 5, ground := Ground.phase }, { on := 6, ground := Ground.phase }, { on := 7, ground := Ground.phase }, { on := 8, ground := Ground.textOnly Departure.lateStores }, { on := 9, ground := Ground.phase }], guard := none }) rfl (fun K hK => ?_) AllReadyH.nil
  refine Eq.mpr (if_pos (by rfl)) ?_
  refine wp_store_mid 47 (.tmp 6) (.tmp 17) rfl w1.heap.size 0 X rfl rfl ?_ ?_ hone ?_
  · rw [hX]; exact hw2.there_
  · rw [hX]; exact info64
  have hw3 := hw2.setAll (vs := X) (by rw [hX]; rfl)
  have hb3 : Below w1.heap.size w1 ((w1.alloc (.cells z64 47)).drew.setCells w1.heap.size 0 X.toList) := below_setCells w1 w1.heap.size _ 0 hb2 (Nat.le_refl _)
  refine hK.out _ _ ⟨(hb3.cell (p := ⟨cb, 2, none⟩) hcb1).trans cb2, range_keep HRG.out hb3 hg0, HRUN.out _ hb3⟩ (fun _ => ?_)
  clear hK K hb2 hw2
  have HW3 : Hid (Whole ((w1.alloc (.cells z64 47)).drew.setCells w1.heap.size 0 X.toList) w1.heap.size 47 X) := Lib.hid hw3
  have HB3 := Lib.hid hb3
  clear hw3 hb3
  generalize (w1.alloc (.cells z64 47)).drew.setCells w1.heap.size 0 X.toList = w3 at *
  refine wpAnyH_take (i := 11) (oi := { dst := some 7, op := Op.assign (Operand.tmp 18), type := 4, pos := "cache.go:87", after := #[{ on := 8, ground := Ground.data }, { on := 10, ground := Ground.chain }, { on := 0, ground := Ground.phase }, { on := 1, ground := Ground.phase }, { on := 2, ground := Ground.phase }, { on := 3, ground := Ground.phase }, { on := 4, ground := Ground.phase }, { on := 5, ground := Ground.phase }, { on := 6, ground := Ground.phase }, { on := 7, ground := Ground.phase }, { on := 8, ground := Ground.phase }, { on := 9, ground := Ground.phase }, { on := 10, ground := Ground.phase }], guard := none }) (v := ?_) rfl (by kernel_rfl) (by kernel_rfl) (by kernel_rfl) (fun _ _ _ h => h) (Or.inl ⟨by rfl, ?_⟩) (by assumption) ?_
  rotate_left
  · first | (intro w hSw; (try dsimp only at hSw); go_simp; done) | (intro w hSw; (try dsimp only at hSw); go_simp; with_reducible rfl)
  simp only [Act.put, List.setIfInBounds_toArray, List.set_cons_zero, List.set_cons_succ]
  refine wpAnyH_done (by kernel_rfl) ?_ _
  have hb13 := HB3.out
  have hsz1 := HSZ.out
  have HC3 := Lib.hid (HC1.out.below hb13)
  have HW43 := Lib.hid (HW4.out.below hb13 HW4.out.lt)
  have HW63 := Lib.hid (HW6.out.below hb13 HW6.out.lt)
  have HBW3 := Lib.hid (HB0.out.trans (hb13.mono (by omega)))
  have HG6 : Hid (w1.heap.size = w.heap.size + 2) := Lib.hid hsz1
  have HXO := Lib.hid (And.intro hX hone)
  clear hb13 hsz1 HC1 HW4 HW6 HB0 HRUN HRG HB3 cb2 hcb1 hg0 hX hone HSZ
  generalize w1.heap.size = g6 at *
  cases is with
  | true =>
    have hmem : (h, Value.agg X) ∈ hs := look_mem (HYN.out.1 rfl)
    have HFR := Lib.hid (cache_freshen B cb pb H room ts hs v os h w3 HC3.out hroom (HC3.out.perm.subset (List.mem_map.2 ⟨_, hmem, rfl⟩)))
    have HMEM := Lib.hid hmem
    clear hmem
    go_upto_region 3 with (fail)
    refine wp_region_lit ?_
    iterate 3 go_step
    refine wpList_load_mid rfl 29 (.tmp 3) rfl w.heap.size 0 rfl (h.map V8) _ HW43.out.range Tryd.underlying29 rfl HI.out ?_
    simp only [Act.put, List.setIfInBounds_toArray, List.set_cons_zero, List.set_cons_succ]
    go_wp2_with fail
    refine HFR.out.mono ?_
    rintro e w4 ⟨rfl, os', hC4, hF4⟩
    have hout : ∀ g, w.heap.size ≤ g → g ≠ cb ∧ g ≠ H ∧ v.ownBlock ≠ some g := fun g hg => by
      have h1 := HC.out.whole.lt
      have h2 := HC.out.mat.lt
      have h3 := HC.out.rB g
      exact ⟨by omega, by omega, fun e => by have := (h3 e).2; omega⟩
    have HOUT := Lib.hid hout
    have HOFF : Hid (∀ p ∈ hs, Off (w.heap.size + 1) p.2) := Lib.hid (fun p hp => by
      obtain ⟨s1, _, _, h3⟩ := HC.out.vals p hp
      exact h3.off (by omega))
    clear hout
    have HWZ : Hid (Whole w4 (w.heap.size + 1) 47 z64) := Lib.hid ((hF4.block _ HW63.out.lt (HOUT.out _ (by omega)).1 (HOUT.out _ (by omega)).2.1 (HOUT.out _ (by omega)).2.2).trans HW63.out)
    have HW64 : Hid (Whole w4 g6 47 X) := Lib.hid ((hF4.block _ HW3.out.lt (HOUT.out _ (by have := HG6.out; omega)).1 (HOUT.out _ (by have := HG6.out; omega)).2.1 (HOUT.out _ (by have := HG6.out; omega)).2.2).trans HW3.out)
    have HC4 := Lib.hid hC4
    have HF4 : Hid (Fc cb H v.ownBlock w w4) := Lib.hid ((Fc.of_below HBW3.out).trans hF4 (.inl rfl))
    have HXS := HXO
    clear hC4 hF4 HFR HC3 HW43 HW63 HW3 HBW3 HI
    simp only []
    go_upto_region 4 with (fail)
    refine wp_region_lit ?_
    refine wpList_load_mid rfl 47 (.tmp 6) rfl g6 0 rfl X.toList _ HW64.out.range Tryd.underlying47 rfl (by rw [Array.length_toList, HXS.out.1]; exact info64) ?_
    simp only [Act.put, List.setIfInBounds_toArray, List.set_cons_zero, List.set_cons_succ, Array.toArray_toList]
    refine wpList_store_mid rfl 47 (.tmp 4) (.tmp 23) rfl (w.heap.size + 1) 0 X rfl rfl ?_ ?_ HXS.out.2 ?_
    · rw [HXS.out.1]; exact HWZ.out.there_
    · rw [HXS.out.1]; exact info64
    have HWA : Hid (Whole (w4.setCells (w.heap.size + 1) 0 X.toList) (w.heap.size + 1) 47 X) := Lib.hid (HWZ.out.setAll (by rw [HXS.out.1]; rfl))
    have HKA : Hid (∀ k, k ≠ w.heap.size + 1 → (w4.setCells (w.heap.size + 1) 0 X.toList).heap[k]? = w4.heap[k]?) := Lib.hid (fun k hk => heap_setCells_other (w.heap.size + 1) k hk X.toList 0 w4)
    have HBA : Hid (Below (w.heap.size + 1) w4 (w4.setCells (w.heap.size + 1) 0 X.toList)) := Lib.hid (below_setCells w4 (w.heap.size + 1) _ 0 (Below.refl _ _) (Nat.le_refl _))
    generalize w4.setCells (w.heap.size + 1) 0 X.toList = wA at *
    go_wp2_with fail
    refine bodyPost_ret (results_cell2 Tryd.results59 _ _ _ ⟨w.heap.size + 1, 0, none⟩ _ rfl (load_whole HWA.out 47 _ Tryd.underlying47 rfl (by rw [HXS.out.1]; exact info64))) rfl ?_
    have hsA : w4.heap.size ≤ wA.heap.size := HBA.out.size
    have hFA : Fc cb H v.ownBlock w wA := by
      have f := HF4.out
      exact ⟨HBA.out.os.trans f.os, HBA.out.tape.trans f.tape, HBA.out.output.trans f.output, Nat.le_trans f.size hsA, fun k hk h1 h2 h3 => (HKA.out k (by omega)).trans (f.block k hk h1 h2 h3)⟩
    obtain ⟨o1, o2, o3⟩ := HOUT.out (w.heap.size + 1) (by omega)
    have hCA := HC4.out.other o1 o2 o3 HOFF.out HKA.out hsA
    obtain ⟨s1, q1, q2, q3⟩ := hCA.vals _ HMEM.out
    have q2' : h = s1.sum := q2
    rw [q2'] at hCA
    exact ⟨s1, q1, q2'.symm, .agg X, hs, v, os', rfl, hCA, q3, hFA, .inl rfl, fun g hg ho => ⟨ho _ HMEM.out, ho⟩⟩
  | false =>
    go_upto_region 5 with (fail)
    have hno : s.sum ∉ os := by
      rw [← HH.out]
      exact fun hm => (look_none_iff hs h).1 (HYN.out.2 rfl) (HC3.out.perm.symm.subset hm)
    have hS0 : w3.drew.cell? ⟨cb, 0, none⟩ = some (.pointer (some ⟨pb, 0, none⟩)) ∧ w3.drew.rangeAt w.heap.size 0 (h.map V8) := ⟨HC3.out.whole.at_ rfl, HW43.out.range⟩
    refine wp_region_held_drew (S := fun u => u.cell? ⟨cb, 0, none⟩ = some (.pointer (some ⟨pb, 0, none⟩)) ∧ u.rangeAt w.heap.size 0 (h.map V8)) (by kernel_rfl) hS0 (fun hHeld => ?_)
    refine wpAnyH_take (i := 0) (oi := { dst := some 25, op := Op.move (Operand.tmp 0), type := 64, pos := "cache.go:91", after := #[], guard := none }) (v := ?_) rfl (by kernel_rfl) (by kernel_rfl) (by kernel_rfl) (fun _ _ _ h => h) (Or.inl ⟨by rfl, ?_⟩) (by assumption) ?_
    rotate_left
    · first | (intro w hSw; (try dsimp only at hSw); go_simp; done) | (intro w hSw; (try dsimp only at hSw); go_simp; with_reducible rfl)
    simp only [Act.put, List.setIfInBounds_toArray, List.set_cons_zero, List.set_cons_succ]
    refine wpAnyH_take (i := 1) (oi := { dst := some 26, op := Op.nilCheck (Operand.tmp 25), type := 0, pos := "cache.go:91", after := #[{ on := 0, ground := Ground.data }], guard := none }) (v := ?_) rfl (by kernel_rfl) (by kernel_rfl) (by kernel_rfl) (fun _ _ _ h => h) (Or.inl ⟨by rfl, ?_⟩) (by assumption) ?_
    rotate_left
    · first | (intro w hSw; (try dsimp only at hSw); go_simp; done) | (intro w hSw; (try dsimp only at hSw); go_simp; with_reducible rfl)
    simp only [Act.put, List.setIfInBounds_toArray, List.set_cons_zero, List.set_cons_succ]
    refine wpAnyH_take (i := 2) (oi := { dst := some 27, op := Op.fieldAddr 122 (Operand.tmp 26) 0, type := 0, pos := "cache.go:91", after := #[{ on := 1, ground := Ground.data }], guard := none }) (v := ?_) rfl (by kernel_rfl) (by kernel_rfl) (by kernel_rfl) (fun _ _ _ h => h) (Or.inl ⟨by rfl, ?_⟩) (by assumption) ?_
    rotate_left
    · first | (intro w hSw; (try dsimp only at hSw); go_simp; done) | (intro w hSw; (try dsimp only at hSw); go_simp; with_reducible rfl)
    simp only [Act.put, List.setIfInBounds_toArray, List.set_cons_zero, List.set_cons_succ]
    refine wpAnyH_take (i := 3) (oi := { dst := some 28, op := Op.load 50 (Operand.tmp 27), type := 50, pos := "cache.go:91", after := #[{ on := 2, ground := Ground.data }], guard := none }) (v := ?_) rfl (by kernel_rfl) (by kernel_rfl) (by kernel_rfl) (fun _ _ _ h => h) (Or.inl ⟨by rfl, ?_⟩) (by assumption) ?_
    rotate_left
    · first | (intro w hSw; (try dsimp only at hSw); go_simp; done) | (intro w hSw; (try dsimp only at hSw); go_simp; with_reducible rfl)
    simp only [Act.put, List.setIfInBounds_toArray, List.set_cons_zero, List.set_cons_succ]
    refine wpAnyH_take (i := 4) (oi := { dst := some 29, op := Op.load 29 (Operand.tmp 3), type := 29, pos := "cache.go:91", after := #[], guard := none }) (v := .agg (h.map V8).toArray) rfl (by kernel_rfl) (by kernel_rfl) (by kernel_rfl) (fun _ _ _ h => h) (yieldsIf_load_mid (by rfl) 29 (.tmp 3) rfl w.heap.size 0 rfl (h.map V8) _ (fun _ h => h.2) Tryd.underlying29 rfl HI.out) (by assumption) ?_
    simp only [Act.put, List.setIfInBounds_toArray, List.set_cons_zero, List.set_cons_succ]
    have hbd : Below w3.heap.size w3 w3.drew := (Below.refl _ _).drew
    have HC4 := Lib.hid (HC3.out.below hbd)
    have HW44 := Lib.hid (HW43.out.below hbd HW43.out.lt)
    have HW64 := Lib.hid (HW63.out.below hbd HW63.out.lt)
    have HBW4 := Lib.hid (HBW3.out.drew)
    obtain ⟨hB, hV, hvn, htn, hk⟩ := HBY.out
    obtain ⟨hv0, hn⟩ := hvn hno
    have hbytes : (ndT s).bytes.length ≤ 1000 := obytes_len (o := some s) (w := w) (B := 0) (fun t e => by injection e with e; subst e; exact ⟨⟨v0, hn⟩, htn⟩)
    have hget : Calls Tryd.prog 18 #[.pointer (some ⟨pb, 0, none⟩), .agg (h.map V8).toArray] w3.drew fun e w' => (∃ A n c, e = .returned (.tuple #[.slice A n c, .bool true]) ∧ Rd w' w'.heap.size A n (ndT s).bytes ∧ n ≤ c ∧ Tl.Fresh w3.drew.heap.size w' A) ∧ Below w3.drew.heap.size w3.drew w' ∧ Tl.Tlv.dec (ndT s).bytes = (0, ndT s) := by
      rw [HH.out]
      have hbb := HBW3.out.drew
      exact get_root pb M s ms v0 0 w3.drew (hB.below hbb) hV hv0 (node_below hn hbb) htn hk
    have HGET := Lib.hid hget
    have HNO := Lib.hid (And.intro hno hbytes)
    have hSS := hS0
    clear hbd hB hV hvn hv0 hn htn hk hbytes hget hHeld hS0 hno HC3 HW43 HW63 HBW3 HW3
    generalize w3.drew = w4 at *
    refine wpAnyH_ready (rs := [5]) (by kernel_rfl) (by simp) ?_
    refine AllReadyH.cons rfl (fun K hK => ?_) AllReadyH.nil
    go_simp
    refine HGET.out.mono ?_
    rintro e w5 ⟨⟨A5, n5, c5, rfl, hr5, hnc5, -⟩, hb5, hdec5⟩
    have HC5 := Lib.hid (HC4.out.below hb5)
    have hW45 := HW44.out.below hb5 HW44.out.lt
    have HW45 := Lib.hid hW45
    have HW65 := Lib.hid (HW64.out.below hb5 HW64.out.lt)
    have HBW5 := Lib.hid (HBW4.out.trans (hb5.mono (by have := HBW4.out.size; omega)))
    have HR5 := Lib.hid (And.intro hr5 (And.intro hnc5 hdec5))
    have hS5 : w5.cell? ⟨cb, 0, none⟩ = some (.pointer (some ⟨pb, 0, none⟩)) ∧ w5.rangeAt w.heap.size 0 (h.map V8) := ⟨HC5.out.whole.at_ rfl, hW45.range⟩
    refine hK.out _ _ hS5 (fun _ => ?_)
    have hHeld := hS5
    clear hK K hb5 hW45 hr5 hnc5 hdec5 hSS HGET HC4 HW44 HW64 HBW4 hS5
    refine wpAnyH_take (i := 6) (oi := { dst := some 24, op := Op.move (Operand.tmp 30), type := 54, pos := "cache.go:91", after := #[{ on := 5, ground := Ground.data }], guard := none }) (v := ?_) rfl (by kernel_rfl) (by kernel_rfl) (by kernel_rfl) (fun _ _ _ h => h) (Or.inl ⟨by rfl, ?_⟩) (by assumption) ?_
    rotate_left
    · first | (intro w hSw; (try dsimp only at hSw); go_simp; done) | (intro w hSw; (try dsimp only at hSw); go_simp; with_reducible rfl)
    simp only [Act.put, List.setIfInBounds_toArray, List.set_cons_zero, List.set_cons_succ]
    refine wpAnyH_take (i := 7) (oi := { dst := some 31, op := Op.extract (Operand.tmp 24) 0, type := 31, pos := "cache.go:91", after := #[{ on := 6, ground := Ground.data }], guard := none }) (v := ?_) rfl (by kernel_rfl) (by kernel_rfl) (by kernel_rfl) (fun _ _ _ h => h) (Or.inl ⟨by rfl, ?_⟩) (by assumption) ?_
    rotate_left
    · first | (intro w hSw; (try dsimp only at hSw); go_simp; done) | (intro w hSw; (try dsimp only at hSw); go_simp; with_reducible rfl)
    simp only [Act.put, List.setIfInBounds_toArray, List.set_cons_zero, List.set_cons_succ]
    refine wpAnyH_take (i := 8) (oi := { dst := some 32, op := Op.extract (Operand.tmp 24) 1, type := 4, pos := "cache.go:91", after := #[{ on := 6, ground := Ground.data }, { on := 9, ground := Ground.gcOnly Departure.lateStores }], guard := none }) (v := ?_) rfl (by kernel_rfl) (by kernel_rfl) (by kernel_rfl) (fun _ _ _ h => h) (Or.inl ⟨by rfl, ?_⟩) (by assumption) ?_
    rotate_left
    · first | (intro w hSw; (try dsimp only at hSw); go_simp; done) | (intro w hSw; (try dsimp only at hSw); go_simp; with_reducible rfl)
    simp only [Act.put, List.setIfInBounds_toArray, List.set_cons_zero, List.set_cons_succ]
    refine wpAnyH_take (i := 9) (oi := { dst := some 8, op := Op.assign (Operand.tmp 31), type := 31, pos := "cache.go:91", after := #[{ on := 7, ground := Ground.data }, { on := 5, ground := Ground.chain }, { on := 0, ground := Ground.phase }, { on := 1, ground := Ground.phase }, { on := 2, ground := Ground.phase }, { on := 3, ground := Ground.phase }, { on := 4, ground := Ground.phase }, { on := 5, ground := Ground.phase }, { on := 6, ground := Ground.phase }, { on := 7, ground := Ground.phase }, { on := 8, ground := Ground.textOnly Departure.lateStores }], guard := none }) (v := ?_) rfl (by kernel_rfl) (by kernel_rfl) (by kernel_rfl) (fun _ _ _ h => h) (Or.inl ⟨by rfl, ?_⟩) (by assumption) ?_
    rotate_left
    · first | (intro w hSw; (try dsimp only at hSw); go_simp; done) | (intro w hSw; (try dsimp only at hSw); go_simp; with_reducible rfl)
    simp only [Act.put, List.setIfInBounds_toArray, List.set_cons_zero, List.set_cons_succ]
    refine wpAnyH_take (i := 10) (oi := { dst := some 9, op := Op.assign (Operand.tmp 32), type := 4, pos := "cache.go:91", after := #[{ on := 8, ground := Ground.data }, { on := 9, ground := Ground.chain }, { on := 0, ground := Ground.phase }, { on := 1, ground := Ground.phase }, { on := 2, ground := Ground.phase }, { on := 3, ground := Ground.phase }, { on := 4, ground := Ground.phase }, { on := 5, ground := Ground.phase }, { on := 6, ground := Ground.phase }, { on := 7, ground := Ground.phase }, { on := 8, ground := Ground.phase }, { on := 9, ground := Ground.phase }], guard := none }) (v := ?_) rfl (by kernel_rfl) (by kernel_rfl) (by kernel_rfl) (fun _ _ _ h => h) (Or.inl ⟨by rfl, ?_⟩) (by assumption) ?_
    rotate_left
    · first | (intro w hSw; (try dsimp only at hSw); go_simp; done) | (intro w hSw; (try dsimp only at hSw); go_simp; with_reducible rfl)
    simp only [Act.put, List.setIfInBounds_toArray, List.set_cons_zero, List.set_cons_succ]
    refine wpAnyH_done (by kernel_rfl) ?_ _
    clear hHeld
    go_upto_region 8 with (fail)
    have HTK := Lib.hid (cache_take B cb pb H room ts hs v os s hs0 A5 n5 c5 (ndT s).bytes w5 HC5.out hroom hr1 HNO.out.1 HR5.out.1 HR5.out.2.1 (by have h1 := HR5.out.1.len; have h2 := HNO.out.2; omega) HR5.out.2.2)
    rw [← HH.out] at HTK
    change Hid (Calls Tryd.prog 81 #[.pointer (some ⟨cb, 0, none⟩), .agg (h.map V8).toArray, .slice A5 n5 c5] w5 (TakePost w5 B cb pb H room ts hs v.ownBlock s)) at HTK
    refine wp_region_lit ?_
    iterate 3 go_step
    refine wpList_load_mid rfl 29 (.tmp 3) rfl w.heap.size 0 rfl (h.map V8) _ HW45.out.range Tryd.underlying29 rfl HI.out ?_
    simp only [Act.put, List.setIfInBounds_toArray, List.set_cons_zero, List.set_cons_succ]
    go_wp2_with fail
    refine HTK.out.mono ?_
    rintro e w6 ⟨u6, hs6, v6, os6, rfl, hC6, hV6, hF6, hN6, hO6⟩
    obtain ⟨X6, rfl, hx1, hx2⟩ := hV6.arr
    have HXS := Lib.hid (And.intro hx1 hx2)
    have hout : ∀ g, w.heap.size ≤ g → g ≠ cb ∧ g ≠ H ∧ v.ownBlock ≠ some g := fun g hg => by
      have h1 := HC.out.whole.lt
      have h2 := HC.out.mat.lt
      have h3 := HC.out.rB g
      exact ⟨by omega, by omega, fun e => by have := (h3 e).2; omega⟩
    have HOUT := Lib.hid hout
    have HOFF : Hid (∀ p ∈ hs, Off (w.heap.size + 1) p.2) := Lib.hid (fun p hp => by
      obtain ⟨s1, _, _, h3⟩ := HC.out.vals p hp
      exact h3.off (by omega))
    clear hout
    have HWZ : Hid (Whole w6 (w.heap.size + 1) 47 z64) := Lib.hid ((hF6.block _ HW65.out.lt (HOUT.out _ (by omega)).1 (HOUT.out _ (by omega)).2.1 (HOUT.out _ (by omega)).2.2).trans HW65.out)
    have HC6 := Lib.hid (And.intro hC6 (And.intro hV6 (And.intro hN6 hO6)))
    have HF6 : Hid (Fc cb H v.ownBlock w w6) := Lib.hid ((Fc.of_below HBW5.out).trans hF6 (.inl rfl))
    have HLT5 : Hid (w.heap.size + 1 < w5.heap.size) := Lib.hid HW65.out.lt
    have HSW5 : Hid (w.heap.size ≤ w5.heap.size) := Lib.hid HBW5.out.size
    clear hC6 hV6 hF6 hN6 hO6 hx1 hx2 HTK HC5 HW45 HW65 HBW5 HR5
    simp only []
    iterate 7 go_step
    refine wpList_store_mid rfl 47 (.tmp 4) (.tmp 40) rfl (w.heap.size + 1) 0 X6 rfl rfl ?_ ?_ HXS.out.2 ?_
    · rw [HXS.out.1]; exact HWZ.out.there_
    · rw [HXS.out.1]; exact info64
    have HWA : Hid (Whole (w6.setCells (w.heap.size + 1) 0 X6.toList) (w.heap.size + 1) 47 X6) := Lib.hid (HWZ.out.setAll (by rw [HXS.out.1]; rfl))
    have HKA : Hid (∀ k, k ≠ w.heap.size + 1 → (w6.setCells (w.heap.size + 1) 0 X6.toList).heap[k]? = w6.heap[k]?) := Lib.hid (fun k hk => heap_setCells_other (w.heap.size + 1) k hk X6.toList 0 w6)
    have HBA : Hid (Below (w.heap.size + 1) w6 (w6.setCells (w.heap.size + 1) 0 X6.toList)) := Lib.hid (below_setCells w6 (w.heap.size + 1) _ 0 (Below.refl _ _) (Nat.le_refl _))
    generalize w6.setCells (w.heap.size + 1) 0 X6.toList = wA at *
    go_wp2_with fail
    refine bodyPost_ret (results_cell2 Tryd.results59 _ _ _ ⟨w.heap.size + 1, 0, none⟩ _ rfl (load_whole HWA.out 47 _ Tryd.underlying47 rfl (by rw [HXS.out.1]; exact info64))) rfl ?_
    have hsA : w6.heap.size ≤ wA.heap.size := HBA.out.size
    obtain ⟨hC6, hV6, hN6, hO6⟩ := HC6.out
    have hFA : Fc cb H v.ownBlock w wA := by
      have f := HF6.out
      exact ⟨HBA.out.os.trans f.os, HBA.out.tape.trans f.tape, HBA.out.output.trans f.output, Nat.le_trans f.size hsA, fun k hk h1 h2 h3 => (HKA.out k (by omega)).trans (f.block k hk h1 h2 h3)⟩
    obtain ⟨o1, o2, o3⟩ := HOUT.out (w.heap.size + 1) (by omega)
    obtain ⟨ou, oh⟩ := hO6 (w.heap.size + 1) HLT5.out HOFF.out
    have o4 : v6.ownBlock ≠ some (w.heap.size + 1) := by
      rcases hN6 with h | ⟨g, h1, h2⟩
      · rw [h]; exact o3
      · rw [h1]
        intro e
        injection e with e
        have := HLT5.out
        omega
    have hCA := hC6.other o1 o2 o4 oh HKA.out hsA
    have hw5 := HSW5.out
    exact ⟨s, hs0, HH.out.symm, .agg X6, hs6, v6, os6, rfl, hCA, hV6.other ou HKA.out hsA, hFA, by
      rcases hN6 with h | ⟨g, h1, h2⟩
      · exact .inl h
      · exact .inr ⟨g, h1, by omega⟩, fun g hg ho => hO6 g (by omega) ho⟩
end Go.Proofs.YtolkpjbbfopmnaaDoor
namespace Go.Proofs.YtolkpjbbfopmnaaDoor
open Go.RowKit
open Tr

def CNodePost (w : World) (B cb pb H room : Nat) (ts : List T) (r : Option Nat) (h : List UInt8) (e : Ending) (w' : World) : Prop :=
  ∃ X hs' v' os', (Array.size X = 68 ∧ X.all (fun c : Value => c.oneCell') = true) ∧ e = .returned (.tuple #[.agg X, .int .i64 0]) ∧ CAt w' B cb pb H room ts hs' v' (os' ++ [h]) ∧ Fc cb H r w w' ∧ RNew w r v'.ownBlock
set_option maxRecDepth 100000 in
set_option maxHeartbeats 1000000 in
theorem cache_node (B cb pb H room : Nat) (ts : List T) (hs : List (List UInt8 × Value)) (v : Value) (os : List (List UInt8)) (s : T) (hs0 : s ∈ ts) (M : Nat) (ms : List (List UInt8 × Value)) (v0 : Value) (w : World) (hc : CAt w B cb pb H room ts hs v os) (hroom : room ≤ 4096) (hr1 : 1 ≤ room)
    (hB : BAt w pb M ms) (hV : NVals ms) (hvn : s.sum ∉ os → MAt.look ms s.sum = some v0 ∧ NodeV w 0 s v0) (htn : s.n ≤ 64) (hk : 1 ≤ s.key.length) (hkv : ∀ s1 ∈ ts, s1.key.length ≤ 96 ∧ s1.val.length ≤ 256) :
    Calls Tryd.prog 27 #[.pointer (some ⟨cb, 0, none⟩), .agg (Sh.bcells s.sum)] w (CNodePost w B cb pb H room ts v.ownBlock s.sum) := by
  have hz64 := zero64
  obtain ⟨h, hh⟩ : ∃ h, h = s.sum := ⟨_, rfl⟩
  have hl : h.length = 32 := by rw [hh]; exact sum32 s
  have hb0 : Below w.heap.size w ((w.alloc (.cells (Sh.bcells h) 29)).alloc (.cells z64 47)) := ((Below.refl _ _).alloc (Nat.le_refl _) _).alloc (by simp) _
  have hw4 := (Whole.made w 29 (Sh.bcells h)).alloc (.cells z64 47)
  have hw6 := Whole.made (w.alloc (.cells (Sh.bcells h) 29)) 47 z64
  have hsz : ((w.alloc (.cells (Sh.bcells h) 29)).alloc (.cells z64 47)).heap.size = w.heap.size + 2 := by simp
  rw [size_alloc] at hw6
  have hrd := cache_read B cb pb H room ts hs v os s hs0 M ms v0 ((w.alloc (.cells (Sh.bcells h) 29)).alloc (.cells z64 47)) (hc.below hb0) hroom hr1 (hB.below hb0) hV (fun q => ⟨(hvn q).1, node_below (hvn q).2 hb0⟩) htn hk
  rw [← hh] at hrd
  rw [← hh]
  have HRD : Hid (Calls Tryd.prog 59 #[.pointer (some ⟨cb, 0, none⟩), .agg (h.map V8).toArray] ((w.alloc (.cells (Sh.bcells h) 29)).alloc (.cells z64 47)) (ReadPost ((w.alloc (.cells (Sh.bcells h) 29)).alloc (.cells z64 47)) B cb pb H room ts hs v.ownBlock h)) := Lib.hid hrd
  have HI : Hid ((Tryd.prog.info? 29).map (·.size) = some (h.map V8).length) := Lib.hid (by rw [List.length_map, hl]; exact info49)
  have HRG : Hid (((w.alloc (.cells (Sh.bcells h) 29)).alloc (.cells z64 47)).rangeAt w.heap.size 0 (h.map V8)) := Lib.hid hw4.range
  have HC := Lib.hid hc
  have HB0 := Lib.hid hb0
  have HW6 := Lib.hid hw6
  have HSZ := Lib.hid hsz
  have HKS := Lib.hid hkv
  clear hc hb0 hw4 hw6 hsz hrd hB hV hvn htn hk hkv hh hs0
  go_enter Tryd.func27, Tryd.ntmps27
  go_upto_region 3 with (fail)
  generalize (w.alloc (.cells (Sh.bcells h) 29)).alloc (.cells z64 47) = w1 at *
  clear hz64
  refine wp_region_lit ?_
  iterate 3 go_step
  refine wpList_load_mid rfl 29 (.tmp 3) rfl w.heap.size 0 rfl (h.map V8) _ HRG.out Tryd.underlying29 rfl HI.out ?_
  simp only [Act.put, List.setIfInBounds_toArray, List.set_cons_zero, List.set_cons_succ]
  go_wp2_with fail
  refine HRD.out.mono ?_
  rintro e w2 ⟨s, hsm, hse, u2, hs2, v2, os2, rfl, hC2, hV2, hF2, hN2, hO2⟩
  rw [hse] at hC2
  have HKV := Lib.hid (HKS.out s hsm)
  clear hse hsm HKS
  obtain ⟨A, n, c, A', n', c', rfl, hk2, hnc, hv2, hnc'⟩ := hV2
  have hout : w.heap.size + 1 ≠ cb ∧ w.heap.size + 1 ≠ H ∧ v.ownBlock ≠ some (w.heap.size + 1) := by
    have h1 := HC.out.whole.lt
    have h2 := HC.out.mat.lt
    have h3 := HC.out.rB (w.heap.size + 1)
    exact ⟨by omega, by omega, fun e => by have := (h3 e).2; omega⟩
  have hoff : ∀ p ∈ hs, Off (w.heap.size + 1) p.2 := fun p hp => by
    obtain ⟨s1, _, _, h3⟩ := HC.out.vals p hp
    exact h3.off (by omega)
  have hlt1 := HW6.out.lt
  have HWZ : Hid (Whole w2 (w.heap.size + 1) 47 z64) := Lib.hid ((hF2.block _ hlt1 hout.1 hout.2.1 hout.2.2).trans HW6.out)
  have HOF := Lib.hid (And.intro hout ((hO2 (w.heap.size + 1) hlt1 hoff).2))
  have HLT1 := Lib.hid hlt1
  obtain ⟨hx1, hx2⟩ := acells_ok (h := (s.h : Int)) (z := s.n) (rfl : Value.slice A n c = _) (rfl : Value.slice A' n' c' = _) (lsum32 s) (rsum32 s)
  have HXS := Lib.hid (And.intro hx1 hx2)
  have HC2 := Lib.hid hC2
  have HFN : Hid (Fc cb H v.ownBlock w w2 ∧ RNew w1 v.ownBlock v2.ownBlock) := Lib.hid ⟨(Fc.of_below HB0.out).trans hF2 (.inl rfl), hN2⟩
  have HKR := Lib.hid hk2.1
  have HVR := Lib.hid hv2.1
  have HLS := Lib.hid (And.intro (lsum32 s) (rsum32 s))
  clear hC2 hF2 hN2 hO2 hk2 hv2 hout hoff hlt1 hx1 hx2 HRD HRG HI HW6
  generalize hXX : (acells (.slice A n c) (.slice A' n' c') (s.h : Int) s.n s.lsum s.rsum).toArray = X at *
  have HXX := Lib.hid hXX
  clear hXX
  have hz64 := zero64
  simp only []
  iterate 13 go_step
  clear hz64
  have hXi : (Tryd.prog.info? 47).map (·.size) = some X.size := by rw [HXS.out.1]; exact info64
  refine Tl.wpList_store_made rfl 47 (.tmp 6) (.tmp 15) rfl z64 X rfl rfl hXi (by rw [HXS.out.1]; rfl) HXS.out.2 ?_
  have hb3 : Below w2.heap.size w2 (w2.alloc (.cells X 47)) := (Below.refl _ _).alloc (Nat.le_refl _) _
  have HW8 := Lib.hid (Whole.made w2 47 X)
  have HB3 := Lib.hid hb3
  have HKR3 := Lib.hid ((HKR.out.below hb3 (Nat.le_refl _)).more hb3.size)
  have HVR3 := Lib.hid ((HVR.out.below hb3 (Nat.le_refl _)).more hb3.size)
  clear hXi hb3 HKR HVR
  generalize w2.alloc (.cells X 47) = w3 at *
  have hW8 := HW8.out
  rw [← HXX.out] at hW8
  have c0 : w3.drew.cell? ⟨w2.heap.size, 0, none⟩ = some (.slice A n c) := hW8.at_ rfl
  have c1 : w3.drew.cell? ⟨w2.heap.size, 1, none⟩ = some (.slice A' n' c') := hW8.at_ rfl
  have HW3 : Hid (Whole w3.drew w2.heap.size 47 (acells (.slice A n c) (.slice A' n' c') (s.h : Int) s.n s.lsum s.rsum).toArray) := Lib.hid hW8
  have HBD := Lib.hid HB3.out.drew
  have HG6 : Hid (w2.heap.size ≤ w2.heap.size) := Lib.hid (Nat.le_refl _)
  clear hW8 HW8 HB3
  go_upto_region 4 with (fail)
  have hkd : Rd w3.drew w3.drew.heap.size A n s.key := HKR3.out
  have hvd : Rd w3.drew w3.drew.heap.size A' n' s.val := HVR3.out
  have hnn : n ≤ 70368744177664 := by have h1 := hkd.len; have h2 := HKV.out.1; omega
  have hnn' : n' ≤ 70368744177664 := by have h1 := hvd.len; have h2 := HKV.out.2; omega
  have HC1 := Lib.hid (clone_any A n c s.key w3.drew hkd hnn)
  have HVD := Lib.hid hvd
  have hS0 : w3.drew.cell? ⟨w2.heap.size, 0, none⟩ = some (.slice A n c) ∧ w3.drew.cell? ⟨w2.heap.size, 1, none⟩ = some (.slice A' n' c') := ⟨c0, c1⟩
  clear c0 c1 hkd hvd HKR3 HVR3
  have hlt3 : w2.heap.size < w3.drew.heap.size := HW3.out.lt
  refine wp_region_late (S := fun u => u.cell? ⟨w2.heap.size, 0, none⟩ = some (.slice A n c) ∧ u.cell? ⟨w2.heap.size, 1, none⟩ = some (.slice A' n' c')) (late := (7 ≤ ·)) (by kernel_rfl) ?_
  refine wpLate_take (i := 0) (oi := { dst := some 17, op := Op.fieldAddr 47 (Operand.tmp 6) 0, type := 0, pos := "cache.go:38", after := #[], guard := none }) (v := ?_) rfl (by kernel_rfl) (by kernel_rfl) (by kernel_rfl) (by kernel_rfl) (fun _ _ _ h => h) (Or.inl ⟨by rfl, ?_⟩) (by assumption) ?_
  rotate_left
  · first | (intro w hSw; (try dsimp only at hSw); go_simp; done) | (intro w hSw; (try dsimp only at hSw); go_simp; with_reducible rfl)
  simp only [Act.put, List.setIfInBounds_toArray, List.set_cons_zero, List.set_cons_succ]
  refine wpLate_take (i := 1) (oi := { dst := some 18, op := Op.load 31 (Operand.tmp 17), type := 31, pos := "cache.go:38", after := #[{ on := 0, ground := Ground.data }], guard := none }) (v := ?_) rfl (by kernel_rfl) (by kernel_rfl) (by kernel_rfl) (by kernel_rfl) (fun _ _ _ h => h) (Or.inl ⟨by rfl, ?_⟩) (by assumption) ?_
  rotate_left
  · first | (intro w hSw; (try dsimp only at hSw); go_simp; done) | (intro w hSw; (try dsimp only at hSw); go_simp; with_reducible rfl)
  simp only [Act.put, List.setIfInBounds_toArray, List.set_cons_zero, List.set_cons_succ]
  refine wpLate_take (i := 3) (oi := { dst := some 20, op := Op.fieldAddr 47 (Operand.tmp 6) 1, type := 0, pos := "cache.go:38", after := #[], guard := none }) (v := ?_) rfl (by kernel_rfl) (by kernel_rfl) (by kernel_rfl) (by kernel_rfl) (fun _ _ _ h => h) (Or.inl ⟨by rfl, ?_⟩) (by assumption) ?_
  rotate_left
  · first | (intro w hSw; (try dsimp only at hSw); go_simp; done) | (intro w hSw; (try dsimp only at hSw); go_simp; with_reducible rfl)
  simp only [Act.put, List.setIfInBounds_toArray, List.set_cons_zero, List.set_cons_succ]
  refine wpLate_take (i := 4) (oi := { dst := some 21, op := Op.load 31 (Operand.tmp 20), type := 31, pos := "cache.go:38", after := #[{ on := 3, ground := Ground.data }], guard := none }) (v := ?_) rfl (by kernel_rfl) (by kernel_rfl) (by kernel_rfl) (by kernel_rfl) (fun _ _ _ h => h) (Or.inl ⟨by rfl, ?_⟩) (by assumption) ?_
  rotate_left
  · first | (intro w hSw; (try dsimp only at hSw); go_simp; done) | (intro w hSw; (try dsimp only at hSw); go_simp; with_reducible rfl)
  simp only [Act.put, List.setIfInBounds_toArray, List.set_cons_zero, List.set_cons_succ]
  generalize w3.drew = w4 at *
  refine wpLate_ready (rs := [2]) (by kernel_rfl) (by simp) ?_
  refine AllLate.cons rfl (fun K hK => ?_) AllLate.nil
  go_simp
  refine HC1.out.mono ?_
  rintro e w5 ⟨A5, n5, c5, rfl, hr5, hnc5, hb5⟩
  have hS5 : w5.cell? ⟨w2.heap.size, 0, none⟩ = some (.slice A n c) ∧ w5.cell? ⟨w2.heap.size, 1, none⟩ = some (.slice A' n' c') := ⟨(hb5.cell (p := ⟨w2.heap.size, 0, none⟩) hlt3).trans hS0.1, (hb5.cell (p := ⟨w2.heap.size, 1, none⟩) hlt3).trans hS0.2⟩
  refine hK.out _ _ (fun _ => hS5) ?_
  have HC2' := Lib.hid (clone_any A' n' c' s.val w5 ((HVD.out.below hb5 (Nat.le_refl _)).more hb5.size) hnn')
  have HW5 := Lib.hid (HW3.out.below hb5 hlt3)
  have HB5 := Lib.hid (HBD.out.trans (hb5.mono (Nat.le_of_lt hlt3)))
  have hlt5 : w2.heap.size < w5.heap.size := Nat.lt_of_lt_of_le hlt3 hb5.size
  clear hK K hr5 hb5 HC1 HVD HW3 HBD hlt3 hS0
  have hS0 := hS5
  clear hS5
  try simp only [Act.put, List.setIfInBounds_toArray, List.set_cons_zero, List.set_cons_succ]
  refine wpLate_take (i := 6) (oi := { dst := some 23, op := Op.fieldAddr 47 (Operand.tmp 6) 0, type := 0, pos := "cache.go:38", after := #[{ on := 0, ground := Ground.phase }, { on := 1, ground := Ground.phase }, { on := 2, ground := Ground.phase }, { on := 3, ground := Ground.phase }, { on := 4, ground := Ground.phase }, { on := 5, ground := Ground.textOnly Departure.lateStoresUnsure }], guard := none }) (v := ?_) rfl (by kernel_rfl) (by kernel_rfl) (by kernel_rfl) (by kernel_rfl) (fun _ _ _ h => h) (Or.inl ⟨by rfl, ?_⟩) (by assumption) ?_
  rotate_left
  · first | (intro w hSw; (try dsimp only at hSw); go_simp; done) | (intro w hSw; (try dsimp only at hSw); go_simp; with_reducible rfl)
  simp only [Act.put, List.setIfInBounds_toArray, List.set_cons_zero, List.set_cons_succ]
  refine wpLate_ready (rs := [5]) (by kernel_rfl) (by simp) ?_
  refine AllLate.cons rfl (fun K hK => ?_) AllLate.nil
  go_simp
  refine HC2'.out.mono ?_
  rintro e w6 ⟨A6, n6, c6, rfl, hr6, hnc6, hb6⟩
  have hS6 : w6.cell? ⟨w2.heap.size, 0, none⟩ = some (.slice A n c) ∧ w6.cell? ⟨w2.heap.size, 1, none⟩ = some (.slice A' n' c') := ⟨(hb6.cell (p := ⟨w2.heap.size, 0, none⟩) hlt5).trans hS0.1, (hb6.cell (p := ⟨w2.heap.size, 1, none⟩) hlt5).trans hS0.2⟩
  refine hK.out _ _ (fun _ => hS6) ?_
  have hW6 := HW5.out.below hb6 hlt5
  have HB6 := Lib.hid (HB5.out.trans (hb6.mono (Nat.le_of_lt hlt5)))
  obtain ⟨s0, s1⟩ := hS6
  clear hK K hr6 hb6 HC2' HW5 HB5 hlt5 hS0
  have f0 := hW6.free 0
  have HW6 := Lib.hid hW6
  clear hW6
  refine wpLate_ready (rs := [7]) (by kernel_rfl) (by simp) ?_
  refine AllLate.cons rfl (fun K hK => ?_) AllLate.nil
  go_simp
  refine hK.out _ _ (fun h => absurd h (by decide)) ?_
  clear hK K f0
  have hW7 := HW6.out.set 0 (.slice A5 n5 c5)
  have hB7 : Below w2.heap.size w2 (w6.setCell ⟨w2.heap.size, 0, none⟩ (.slice A5 n5 c5)) := HB6.out.setCell (p := ⟨w2.heap.size, 0, none⟩) (Nat.le_refl _) _
  have s1' : (w6.setCell ⟨w2.heap.size, 0, none⟩ (.slice A5 n5 c5)).cell? ⟨w2.heap.size, 1, none⟩ = some (.slice A' n' c') := hW7.at_ rfl
  have f1 := hW7.free 1
  have HW7 := Lib.hid hW7
  have HB7 := Lib.hid hB7
  clear hW7 hB7 s0 s1 HW6 HB6
  generalize w6.setCell ⟨w2.heap.size, 0, none⟩ (.slice A5 n5 c5) = w7 at *
  refine wpLate_ready (rs := [8]) (by kernel_rfl) (by simp) ?_
  refine AllLate.cons rfl (fun K hK => ?_) AllLate.nil
  go_simp
  refine hK.out _ _ (fun h => absurd h (by decide)) ?_
  clear hK K
  refine wpLate_ready (rs := [9]) (by kernel_rfl) (by simp) ?_
  refine AllLate.cons rfl (fun K hK => ?_) AllLate.nil
  go_simp
  refine hK.out _ _ (fun h => absurd h (by decide)) ?_
  clear hK K f1 s1'
  have HW8 := Lib.hid (HW7.out.set 1 (.slice A6 n6 c6))
  have HB8 := Lib.hid (HB7.out.setCell (p := ⟨w2.heap.size, 1, none⟩) (Nat.le_refl _) (.slice A6 n6 c6))
  clear HW7 HB7
  generalize w7.setCell ⟨w2.heap.size, 1, none⟩ (.slice A6 n6 c6) = w8 at *
  refine wpLate_done (by kernel_rfl) ?_ _
  obtain ⟨Y, hY⟩ : ∃ Y : Array Value, Y = (acells (.slice A5 n5 c5) (.slice A6 n6 c6) (s.h : Int) s.n s.lsum s.rsum).toArray := ⟨_, rfl⟩
  have hW8 : Whole w8 w2.heap.size 47 Y := by rw [hY]; exact HW8.out
  have hYS : Y.size = 68 ∧ Y.all (·.oneCell') = true := by rw [hY]; exact acells_ok rfl rfl HLS.out.1 HLS.out.2
  have HY := Lib.hid hYS
  have HWY := Lib.hid hW8
  have HWZ8 := Lib.hid (HWZ.out.below HB8.out HWZ.out.lt)
  clear hY hW8 hYS HW8
  go_upto_region 5 with (fail)
  refine wp_region_lit ?_
  refine wpList_load_mid rfl 47 (.tmp 6) rfl w2.heap.size 0 rfl Y.toList _ HWY.out.range Tryd.underlying47 rfl (by rw [Array.length_toList, HY.out.1]; exact info64) ?_
  simp only [Act.put, List.setIfInBounds_toArray, List.set_cons_zero, List.set_cons_succ, Array.toArray_toList]
  iterate 3 go_step
  refine wpList_store_mid rfl 47 (.tmp 4) (.tmp 25) rfl (w.heap.size + 1) 0 Y rfl rfl ?_ ?_ HY.out.2 ?_
  · rw [HY.out.1]; exact HWZ8.out.there_
  · rw [HY.out.1]; exact info64
  have HWA : Hid (Whole (w8.setCells (w.heap.size + 1) 0 Y.toList) (w.heap.size + 1) 47 Y) := Lib.hid (HWZ8.out.setAll (by rw [HY.out.1]; rfl))
  have HKA : Hid (∀ k, k ≠ w.heap.size + 1 → (w8.setCells (w.heap.size + 1) 0 Y.toList).heap[k]? = w8.heap[k]?) := Lib.hid (fun k hk => heap_setCells_other (w.heap.size + 1) k hk Y.toList 0 w8)
  have HBA : Hid (Below (w.heap.size + 1) w8 (w8.setCells (w.heap.size + 1) 0 Y.toList)) := Lib.hid (below_setCells w8 (w.heap.size + 1) _ 0 (Below.refl _ _) (Nat.le_refl _))
  generalize w8.setCells (w.heap.size + 1) 0 Y.toList = wA at *
  go_wp2_with fail
  refine bodyPost_ret (results_cell2 Tryd.results27 _ _ _ ⟨w.heap.size + 1, 0, none⟩ _ rfl (load_whole HWA.out 47 _ Tryd.underlying47 rfl (by rw [HY.out.1]; exact info64))) rfl ?_
  have hsA : w8.heap.size ≤ wA.heap.size := HBA.out.size
  have hs8 := HB8.out.size
  obtain ⟨hF2, hN2⟩ := HFN.out
  obtain ⟨⟨o1, o2, o3⟩, oh⟩ := HOF.out
  have hs1 := HSZ.out
  have o4 : v2.ownBlock ≠ some (w.heap.size + 1) := by
    rcases hN2 with h | ⟨g, h1, h2⟩
    · rw [h]; exact o3
    · rw [h1]
      intro e
      injection e with e
      omega
  have hC8 := HC2.out.below HB8.out
  have hFA : Fc cb H v.ownBlock w wA := ⟨HBA.out.os.trans (HB8.out.os.trans hF2.os), HBA.out.tape.trans (HB8.out.tape.trans hF2.tape), HBA.out.output.trans (HB8.out.output.trans hF2.output), Nat.le_trans hF2.size (Nat.le_trans hs8 hsA), fun k hk h1 h2 h3 => (HKA.out k (by omega)).trans ((HB8.out.block k (Nat.lt_of_lt_of_le hk hF2.size)).trans (hF2.block k hk h1 h2 h3))⟩
  exact ⟨Y, hs2, v2, os2, HY.out, rfl, hC8.other o1 o2 o4 oh HKA.out hsA, hFA, by
    rcases hN2 with h | ⟨g, h1, h2⟩
    · exact .inl h
    · exact .inr ⟨g, h1, by omega⟩⟩
end Go.Proofs.YtolkpjbbfopmnaaDoor
namespace Go.Proofs.YtolkpjbbfopmnaaDoor
open Go.RowKit
open Tr

/-- There is none; only new memory was made. -/
def NonePost (w : World) (e : Ending) (w' : World) : Prop := e = .returned (.tuple #[.agg z64, .int .i64 11]) ∧ Below w.heap.size w w'
theorem build_zero : ∀ w, (Instr.build 47 #[]).run Tryd.prog w = .ok (.agg z64) w := fun w => run_build w 47 #[] z64 (by kernel_rfl)
set_option maxRecDepth 100000 in
set_option maxHeartbeats 1000000 in
theorem read_none (B cb pb H room : Nat) (ts : List T) (hs : List (List UInt8 × Value)) (v : Value) (os : List (List UInt8)) (s : T) (M : Nat) (ms : List (List UInt8 × Value)) (w : World) (hc : CAt w B cb pb H room ts hs v os)
    (hB : BAt w pb M ms) (hV : NVals ms) (hv0 : MAt.look ms s.sum = none) (hnos : s.sum ∉ os) :
    Calls Tryd.prog 59 #[.pointer (some ⟨cb, 0, none⟩), .agg (Sh.bcells s.sum)] w (NonePost w) := by
  have hz64 := zero64
  obtain ⟨h, hh⟩ : ∃ h, h = s.sum := ⟨_, rfl⟩
  have hl : h.length = 32 := by rw [hh]; exact sum32 s
  obtain ⟨X, is, hX, hone, hrun, hyes, hno⟩ := look_case (M := H) hc.nvals h hl
  have HBY := Lib.hid (And.intro hB (And.intro hV (And.intro hv0 hnos)))
  have HYN := Lib.hid (And.intro hyes hno)
  clear hB hV hv0 hnos hyes hno
  have hb0 : Below w.heap.size w ((w.alloc (.cells (Sh.bcells h) 29)).alloc (.cells z64 47)) := ((Below.refl _ _).alloc (Nat.le_refl _) _).alloc (by simp) _
  have hw4 := (Whole.made w 29 (Sh.bcells h)).alloc (.cells z64 47)
  have hw6 := Whole.made (w.alloc (.cells (Sh.bcells h) 29)) 47 z64
  have hsz : ((w.alloc (.cells (Sh.bcells h) 29)).alloc (.cells z64 47)).heap.size = w.heap.size + 2 := by simp
  rw [size_alloc] at hw6
  rw [← hh]
  have HC := Lib.hid hc
  have HH := Lib.hid hh
  have hC1 := hc.below hb0
  have HC1 := Lib.hid hC1
  have HB0 := Lib.hid hb0
  have HW4 := Lib.hid hw4
  have HW6 := Lib.hid hw6
  have HSZ := Lib.hid hsz
  have cb2 : ((w.alloc (.cells (Sh.bcells h) 29)).alloc (.cells z64 47)).cell? ⟨cb, 2, none⟩ = some (.map (some H)) := hC1.whole.at_ rfl
  have hcb1 : cb < ((w.alloc (.cells (Sh.bcells h) 29)).alloc (.cells z64 47)).heap.size := hC1.whole.lt
  have HRUN := Lib.hid (fun (u : World) (hbu : Below ((w.alloc (.cells (Sh.bcells h) 29)).alloc (.cells z64 47)).heap.size ((w.alloc (.cells (Sh.bcells h) 29)).alloc (.cells z64 47)) u) => hrun u (hC1.below hbu).mat)
  change Hid (∀ (u : World), Below ((w.alloc (.cells (Sh.bcells h) 29)).alloc (.cells z64 47)).heap.size ((w.alloc (.cells (Sh.bcells h) 29)).alloc (.cells z64 47)) u → (Instr.lookup 94 (.map (some H)) (.agg (h.map V8).toArray) true).run Tryd.prog u = .ok (.tuple #[.agg X, .bool is]) u) at HRUN
  have HI : Hid ((Tryd.prog.info? 29).map (·.size) = some (h.map V8).length) := Lib.hid (by rw [List.length_map, hl]; exact info49)
  have HRG : Hid (((w.alloc (.cells (Sh.bcells h) 29)).alloc (.cells z64 47)).rangeAt w.heap.size 0 (h.map V8)) := Lib.hid hw4.range
  clear hc hh hC1 hb0 hw4 hw6 hsz hrun
  go_enter Tryd.func59, Tryd.ntmps59
  go_upto_region 1 with (fail)
  generalize (w.alloc (.cells (Sh.bcells h) 29)).alloc (.cells z64 47) = w1 at *
  have hg0 : w.heap.size < w1.heap.size := HW4.out.lt
  have hS0 : w1.drew.cell? ⟨cb, 2, none⟩ = some (.map (some H)) ∧ w1.drew.rangeAt w.heap.size 0 (h.map V8) ∧ (Instr.lookup 94 (.map (some H)) (.agg (h.map V8).toArray) true).run Tryd.prog w1.drew = .ok (.tuple #[.agg X, .bool is]) w1.drew := ⟨cb2, HRG.out, HRUN.out w1.drew (Below.refl _ _).drew⟩
  refine wp_region_held_drew (S := fun u => u.cell? ⟨cb, 2, none⟩ = some (.map (some H)) ∧ u.rangeAt w.heap.size 0 (h.map V8) ∧ (Instr.lookup 94 (.map (some H)) (.agg (h.map V8).toArray) true).run Tryd.prog u = .ok (.tuple #[.agg X, .bool is]) u) (by kernel_rfl) hS0 (fun hHeld => ?_)
  refine wpAnyH_take (i := 0) (oi := { dst := some 11, op := Op.move (Operand.tmp 0), type := 64, pos := "cache.go:87", after := #[], guard := none }) (v := ?_) rfl (by kernel_rfl) (by kernel_rfl) (by kernel_rfl) (fun _ _ _ h => h) (Or.inl ⟨by rfl, ?_⟩) (by assumption) ?_
  rotate_left
  · first | (intro w hSw; (try dsimp only at hSw); go_simp; done) | (intro w hSw; (try dsimp only at hSw); go_simp; with_reducible rfl)
  simp only [Act.put, List.setIfInBounds_toArray, List.set_cons_zero, List.set_cons_succ]
  refine wpAnyH_take (i := 1) (oi := { dst := some 12, op := Op.nilCheck (Operand.tmp 11), type := 0, pos := "cache.go:87", after := #[{ on := 0, ground := Ground.data }], guard := none }) (v := ?_) rfl (by kernel_rfl) (by kernel_rfl) (by kernel_rfl) (fun _ _ _ h => h) (Or.inl ⟨by rfl, ?_⟩) (by assumption) ?_
  rotate_left
  · first | (intro w hSw; (try dsimp only at hSw); go_simp; done) | (intro w hSw; (try dsimp only at hSw); go_simp; with_reducible rfl)
  simp only [Act.put, List.setIfInBounds_toArray, List.set_cons_zero, List.set_cons_succ]
  refine wpAnyH_take (i := 2) (oi := { dst := some 13, op := Op.fieldAddr 122 (Operand.tmp 12) 2, type := 0, pos := "cache.go:87", after := #[{ on := 1, ground := Ground.data }], guard := none }) (v := ?_) rfl (by kernel_rfl) (by kernel_rfl) (by kernel_rfl) (fun _ _ _ h => h) (Or.inl ⟨by rfl, ?_⟩) (by assumption) ?_
  rotate_left
  · first | (intro w hSw; (try dsimp only at hSw); go_simp; done) | (intro w hSw; (try dsimp only at hSw); go_simp; with_reducible rfl)
  simp only [Act.put, List.setIfInBounds_toArray, List.set_cons_zero, List.set_cons_succ]
  refine wpAnyH_take (i := 3) (oi := { dst := some 14, op := Op.load 94 (Operand.tmp 13), type := 94, pos := "cache.go:87", after := #[{ on := 2, ground := Ground.data }], guard := none }) (v := ?_) rfl (by kernel_rfl) (by kernel_rfl) (by kernel_rfl) (fun _ _ _ h => h) (Or.inl ⟨by rfl, ?_⟩) (by assumption) ?_
  rotate_left
  · first | (intro w hSw; (try dsimp only at hSw); go_simp; done) | (intro w hSw; (try dsimp only at hSw); go_simp; with_reducible rfl)
  simp only [Act.put, List.setIfInBounds_toArray, List.set_cons_zero, List.set_cons_succ]
  refine wpAnyH_take (i := 4) (oi := { dst := some 15, op := Op.load 29 (Operand.tmp 3), type := 29, pos := "cache.go:87", after := #[], guard := none }) (v := .agg (h.map V8).toArray) rfl (by kernel_rfl) (by kernel_rfl) (by kernel_rfl) (fun _ _ _ h => h) (yieldsIf_load_mid (by rfl) 29 (.tmp 3) rfl w.heap.size 0 rfl (h.map V8) _ (fun _ h => h.2.1) Tryd.underlying29 rfl HI.out) (by assumption) ?_
  simp only [Act.put, List.setIfInBounds_toArray, List.set_cons_zero, List.set_cons_succ]
  refine wpAnyH_take (i := 5) (oi := { dst := some 16, op := Op.lookup 94 (Operand.tmp 14) (Operand.tmp 15) true, type := 74, pos := "cache.go:87", after := #[{ on := 3, ground := Ground.data }, { on := 4, ground := Ground.data }], guard := none }) (v := ?_) rfl (by kernel_rfl) (by kernel_rfl) (by kernel_rfl) (fun _ _ _ h => h) (Or.inl ⟨by rfl, ?_⟩) (by assumption) ?_
  rotate_left
  · first | (intro w hSw; (try dsimp only at hSw); go_simp; done) | (intro w hSw; (try dsimp only at hSw); go_simp; with_reducible rfl)
  simp only [Act.put, List.setIfInBounds_toArray, List.set_cons_zero, List.set_cons_succ]
  refine wpAnyH_take (i := 6) (oi := { dst := some 10, op := Op.move (Operand.tmp 16), type := 74, pos := "cache.go:87", after := #[{ on := 5, ground := Ground.data }], guard := none }) (v := ?_) rfl (by kernel_rfl) (by kernel_rfl) (by kernel_rfl) (fun _ _ _ h => h) (Or.inl ⟨by rfl, ?_⟩) (by assumption) ?_
  rotate_left
  · first | (intro w hSw; (try dsimp only at hSw); go_simp; done) | (intro w hSw; (try dsimp only at hSw); go_simp; with_reducible rfl)
  simp only [Act.put, List.setIfInBounds_toArray, List.set_cons_zero, List.set_cons_succ]
  refine wpAnyH_take (i := 7) (oi := { dst := some 17, op := Op.extract (Operand.tmp 10) 0, type := 47, pos := "cache.go:87", after := #[{ on := 6, ground := Ground.data }], guard := none }) (v := ?_) rfl (by kernel_rfl) (by kernel_rfl) (by kernel_rfl) (fun _ _ _ h => h) (Or.inl ⟨by rfl, ?_⟩) (by assumption) ?_
  rotate_left
  · first | (intro w hSw; (try dsimp only at hSw); go_simp; done) | (intro w hSw; (try dsimp only at hSw); go_simp; with_reducible rfl)
  simp only [Act.put, List.setIfInBounds_toArray, List.set_cons_zero, List.set_cons_succ]
  refine wpAnyH_take (i := 8) (oi := { dst := some 18, op := Op.extract (Operand.tmp 10) 1, type := 4, pos := "cache.go:87", after := #[{ on := 6, ground := Ground.data }, { on := 10, ground := Ground.gcOnly Departure.lateStores }], guard := none }) (v := ?_) rfl (by kernel_rfl) (by kernel_rfl) (by kernel_rfl) (fun _ _ _ h => h) (Or.inl ⟨by rfl, ?_⟩) (by assumption) ?_
  rotate_left
  · first | (intro w hSw; (try dsimp only at hSw); go_simp; done) | (intro w hSw; (try dsimp only at hSw); go_simp; with_reducible rfl)
  simp only [Act.put, List.setIfInBounds_toArray, List.set_cons_zero, List.set_cons_succ]
  refine wpAnyH_ready (rs := [9]) (by kernel_rfl) (by simp) ?_
  refine AllReadyH.cons (o := { dst := some 6, op := Op.alloc 47, type := 0, pos := "cache.go:87", after := #[], guard := none }) rfl (fun K hK => ?_) AllReadyH.nil
  go_simp
  have hb2 : Below w1.heap.size w1 (w1.alloc (.cells z64 47)).drew := ((Below.refl _ _).alloc (Nat.le_refl _) _).drew
  have hw2 : Whole (w1.alloc (.cells z64 47)).drew w1.heap.size 47 z64 := Whole.made w1 47 z64
  refine hK.out _ _ ⟨(hb2.cell (p := ⟨cb, 2, none⟩) hcb1).trans cb2, range_keep HRG.out hb2 hg0, HRUN.out _ hb2⟩ (fun _ => ?_)
  clear hK K hHeld hS0 hz64
  refine wpAnyH_ready (rs := [10]) (by kernel_rfl) (by simp) ?_
  refine AllReadyH.cons (o := { dst := none, op := Op.store 47 (Operand.tmp 6) (Operand.tmp 17), type := 0, pos := "cache.go:87", after := #[{ on := 9, ground := Ground.data }, { on := 7, ground := Ground.data }, { on := 0, ground := Ground.phase }, { on := 1, ground := Ground.phase }, { on := 2, ground := Ground.phase }, { on := 3, ground := Ground.phase }, { on := 4, ground := Ground.phase }, { on := 5, ground := Ground.phase }, { on := 6, ground := Ground.phase }, { on := 7, ground := Ground.phase }, { on := 8, ground := Ground.textOnly Departure.lateStores }, { on := 9, ground := Ground.phase }], guard := none }) rfl (fun K hK => ?_) AllReadyH.nil
  refine Eq.mpr (if_pos (by rfl)) ?_
  refine wp_store_mid 47 (.tmp 6) (.tmp 17) rfl w1.heap.size 0 X rfl rfl ?_ ?_ hone ?_
  · rw [hX]; exact hw2.there_
  · rw [hX]; exact info64
  have hw3 := hw2.setAll (vs := X) (by rw [hX]; rfl)
  have hb3 : Below w1.heap.size w1 ((w1.alloc (.cells z64 47)).drew.setCells w1.heap.size 0 X.toList) := below_setCells w1 w1.heap.size _ 0 hb2 (Nat.le_refl _)
  refine hK.out _ _ ⟨(hb3.cell (p := ⟨cb, 2, none⟩) hcb1).trans cb2, range_keep HRG.out hb3 hg0, HRUN.out _ hb3⟩ (fun _ => ?_)
  clear hK K hb2 hw2
  have HW3 : Hid (Whole ((w1.alloc (.cells z64 47)).drew.setCells w1.heap.size 0 X.toList) w1.heap.size 47 X) := Lib.hid hw3
  have HB3 := Lib.hid hb3
  clear hw3 hb3
  generalize (w1.alloc (.cells z64 47)).drew.setCells w1.heap.size 0 X.toList = w3 at *
  refine wpAnyH_take (i := 11) (oi := { dst := some 7, op := Op.assign (Operand.tmp 18), type := 4, pos := "cache.go:87", after := #[{ on := 8, ground := Ground.data }, { on := 10, ground := Ground.chain }, { on := 0, ground := Ground.phase }, { on := 1, ground := Ground.phase }, { on := 2, ground := Ground.phase }, { on := 3, ground := Ground.phase }, { on := 4, ground := Ground.phase }, { on := 5, ground := Ground.phase }, { on := 6, ground := Ground.phase }, { on := 7, ground := Ground.phase }, { on := 8, ground := Ground.phase }, { on := 9, ground := Ground.phase }, { on := 10, ground := Ground.phase }], guard := none }) (v := ?_) rfl (by kernel_rfl) (by kernel_rfl) (by kernel_rfl) (fun _ _ _ h => h) (Or.inl ⟨by rfl, ?_⟩) (by assumption) ?_
  rotate_left
  · first | (intro w hSw; (try dsimp only at hSw); go_simp; done) | (intro w hSw; (try dsimp only at hSw); go_simp; with_reducible rfl)
  simp only [Act.put, List.setIfInBounds_toArray, List.set_cons_zero, List.set_cons_succ]
  refine wpAnyH_done (by kernel_rfl) ?_ _
  have hb13 := HB3.out
  have hsz1 := HSZ.out
  have HC3 := Lib.hid (HC1.out.below hb13)
  have HW43 := Lib.hid (HW4.out.below hb13 HW4.out.lt)
  have HW63 := Lib.hid (HW6.out.below hb13 HW6.out.lt)
  have HBW3 := Lib.hid (HB0.out.trans (hb13.mono (by omega)))
  have HG6 : Hid (w1.heap.size = w.heap.size + 2) := Lib.hid hsz1
  have HXO := Lib.hid (And.intro hX hone)
  clear hb13 hsz1 HC1 HW4 HW6 HB0 HRUN HRG HB3 cb2 hcb1 hg0 hX hone HSZ
  generalize w1.heap.size = g6 at *
  cases is with
  | true => exact absurd (by rw [← HH.out]; exact HC.out.perm.subset (List.mem_map.2 ⟨_, look_mem (HYN.out.1 rfl), rfl⟩)) HBY.out.2.2.2
  | false =>
    go_upto_region 5 with (fail)
    have hS0 : w3.drew.cell? ⟨cb, 0, none⟩ = some (.pointer (some ⟨pb, 0, none⟩)) ∧ w3.drew.rangeAt w.heap.size 0 (h.map V8) := ⟨HC3.out.whole.at_ rfl, HW43.out.range⟩
    refine wp_region_held_drew (S := fun u => u.cell? ⟨cb, 0, none⟩ = some (.pointer (some ⟨pb, 0, none⟩)) ∧ u.rangeAt w.heap.size 0 (h.map V8)) (by kernel_rfl) hS0 (fun hHeld => ?_)
    refine wpAnyH_take (i := 0) (oi := { dst := some 25, op := Op.move (Operand.tmp 0), type := 64, pos := "cache.go:91", after := #[], guard := none }) (v := ?_) rfl (by kernel_rfl) (by kernel_rfl) (by kernel_rfl) (fun _ _ _ h => h) (Or.inl ⟨by rfl, ?_⟩) (by assumption) ?_
    rotate_left
    · first | (intro w hSw; (try dsimp only at hSw); go_simp; done) | (intro w hSw; (try dsimp only at hSw); go_simp; with_reducible rfl)
    simp only [Act.put, List.setIfInBounds_toArray, List.set_cons_zero, List.set_cons_succ]
    refine wpAnyH_take (i := 1) (oi := { dst := some 26, op := Op.nilCheck (Operand.tmp 25), type := 0, pos := "cache.go:91", after := #[{ on := 0, ground := Ground.data }], guard := none }) (v := ?_) rfl (by kernel_rfl) (by kernel_rfl) (by kernel_rfl) (fun _ _ _ h => h) (Or.inl ⟨by rfl, ?_⟩) (by assumption) ?_
    rotate_left
    · first | (intro w hSw; (try dsimp only at hSw); go_simp; done) | (intro w hSw; (try dsimp only at hSw); go_simp; with_reducible rfl)
    simp only [Act.put, List.setIfInBounds_toArray, List.set_cons_zero, List.set_cons_succ]
    refine wpAnyH_take (i := 2) (oi := { dst := some 27, op := Op.fieldAddr 122 (Operand.tmp 26) 0, type := 0, pos := "cache.go:91", after := #[{ on := 1, ground := Ground.data }], guard := none }) (v := ?_) rfl (by kernel_rfl) (by kernel_rfl) (by kernel_rfl) (fun _ _ _ h => h) (Or.inl ⟨by rfl, ?_⟩) (by assumption) ?_
    rotate_left
    · first | (intro w hSw; (try dsimp only at hSw); go_simp; done) | (intro w hSw; (try dsimp only at hSw); go_simp; with_reducible rfl)
    simp only [Act.put, List.setIfInBounds_toArray, List.set_cons_zero, List.set_cons_succ]
    refine wpAnyH_take (i := 3) (oi := { dst := some 28, op := Op.load 50 (Operand.tmp 27), type := 50, pos := "cache.go:91", after := #[{ on := 2, ground := Ground.data }], guard := none }) (v := ?_) rfl (by kernel_rfl) (by kernel_rfl) (by kernel_rfl) (fun _ _ _ h => h) (Or.inl ⟨by rfl, ?_⟩) (by assumption) ?_
    rotate_left
    · first | (intro w hSw; (try dsimp only at hSw); go_simp; done) | (intro w hSw; (try dsimp only at hSw); go_simp; with_reducible rfl)
    simp only [Act.put, List.setIfInBounds_toArray, List.set_cons_zero, List.set_cons_succ]
    refine wpAnyH_take (i := 4) (oi := { dst := some 29, op := Op.load 29 (Operand.tmp 3), type := 29, pos := "cache.go:91", after := #[], guard := none }) (v := .agg (h.map V8).toArray) rfl (by kernel_rfl) (by kernel_rfl) (by kernel_rfl) (fun _ _ _ h => h) (yieldsIf_load_mid (by rfl) 29 (.tmp 3) rfl w.heap.size 0 rfl (h.map V8) _ (fun _ h => h.2) Tryd.underlying29 rfl HI.out) (by assumption) ?_
    simp only [Act.put, List.setIfInBounds_toArray, List.set_cons_zero, List.set_cons_succ]
    have hbd : Below w3.heap.size w3 w3.drew := (Below.refl _ _).drew
    have HC4 := Lib.hid (HC3.out.below hbd)
    have HW44 := Lib.hid (HW43.out.below hbd HW43.out.lt)
    have HW64 := Lib.hid (HW63.out.below hbd HW63.out.lt)
    have HBW4 := Lib.hid (HBW3.out.drew)
    obtain ⟨hB, hV, hv0, hnos⟩ := HBY.out
    have hget : Calls Tryd.prog 18 #[.pointer (some ⟨pb, 0, none⟩), .agg (h.map V8).toArray] w3.drew fun e w' => e = .returned (.tuple #[.slice none 0 0, .bool false]) ∧ Below w3.drew.heap.size w3.drew w' := by
      rw [HH.out]
      exact get_none pb M s.sum (sum32 s) ms w3.drew (hB.below HBW3.out.drew) hV hv0
    have HGET := Lib.hid hget
    have hSS := hS0
    clear hbd hB hV hv0 hnos hget hHeld hS0 HC3 HW43 HW63 HBW3 HW3
    generalize w3.drew = w4 at *
    refine wpAnyH_ready (rs := [5]) (by kernel_rfl) (by simp) ?_
    refine AllReadyH.cons rfl (fun K hK => ?_) AllReadyH.nil
    go_simp
    refine HGET.out.mono ?_
    rintro e w5 ⟨rfl, hb5⟩
    have HC5 := Lib.hid (HC4.out.below hb5)
    have hW45 := HW44.out.below hb5 HW44.out.lt
    have HW65 := Lib.hid (HW64.out.below hb5 HW64.out.lt)
    have HBW5 := Lib.hid (HBW4.out.trans (hb5.mono (by have := HBW4.out.size; omega)))
    have hS5 : w5.cell? ⟨cb, 0, none⟩ = some (.pointer (some ⟨pb, 0, none⟩)) ∧ w5.rangeAt w.heap.size 0 (h.map V8) := ⟨HC5.out.whole.at_ rfl, hW45.range⟩
    refine hK.out _ _ hS5 (fun _ => ?_)
    have hHeld := hS5
    clear hK K hb5 hW45 hSS HGET HC4 HW44 HW64 HBW4 hS5
    refine wpAnyH_take (i := 6) (oi := { dst := some 24, op := Op.move (Operand.tmp 30), type := 54, pos := "cache.go:91", after := #[{ on := 5, ground := Ground.data }], guard := none }) (v := ?_) rfl (by kernel_rfl) (by kernel_rfl) (by kernel_rfl) (fun _ _ _ h => h) (Or.inl ⟨by rfl, ?_⟩) (by assumption) ?_
    rotate_left
    · first | (intro w hSw; (try dsimp only at hSw); go_simp; done) | (intro w hSw; (try dsimp only at hSw); go_simp; with_reducible rfl)
    simp only [Act.put, List.setIfInBounds_toArray, List.set_cons_zero, List.set_cons_succ]
    refine wpAnyH_take (i := 7) (oi := { dst := some 31, op := Op.extract (Operand.tmp 24) 0, type := 31, pos := "cache.go:91", after := #[{ on := 6, ground := Ground.data }], guard := none }) (v := ?_) rfl (by kernel_rfl) (by kernel_rfl) (by kernel_rfl) (fun _ _ _ h => h) (Or.inl ⟨by rfl, ?_⟩) (by assumption) ?_
    rotate_left
    · first | (intro w hSw; (try dsimp only at hSw); go_simp; done) | (intro w hSw; (try dsimp only at hSw); go_simp; with_reducible rfl)
    simp only [Act.put, List.setIfInBounds_toArray, List.set_cons_zero, List.set_cons_succ]
    refine wpAnyH_take (i := 8) (oi := { dst := some 32, op := Op.extract (Operand.tmp 24) 1, type := 4, pos := "cache.go:91", after := #[{ on := 6, ground := Ground.data }, { on := 9, ground := Ground.gcOnly Departure.lateStores }], guard := none }) (v := ?_) rfl (by kernel_rfl) (by kernel_rfl) (by kernel_rfl) (fun _ _ _ h => h) (Or.inl ⟨by rfl, ?_⟩) (by assumption) ?_
    rotate_left
    · first | (intro w hSw; (try dsimp only at hSw); go_simp; done) | (intro w hSw; (try dsimp only at hSw); go_simp; with_reducible rfl)
    simp only [Act.put, List.setIfInBounds_toArray, List.set_cons_zero, List.set_cons_succ]
    refine wpAnyH_take (i := 9) (oi := { dst := some 8, op := Op.assign (Operand.tmp 31), type := 31, pos := "cache.go:91", after := #[{ on := 7, ground := Ground.data }, { on := 5, ground := Ground.chain }, { on := 0, ground := Ground.phase }, { on := 1, ground := Ground.phase }, { on := 2, ground := Ground.phase }, { on := 3, ground := Ground.phase }, { on := 4, ground := Ground.phase }, { on := 5, ground := Ground.phase }, { on := 6, ground := Ground.phase }, { on := 7, ground := Ground.phase }, { on := 8, ground := Ground.textOnly Departure.lateStores }], guard := none }) (v := ?_) rfl (by kernel_rfl) (by kernel_rfl) (by kernel_rfl) (fun _ _ _ h => h) (Or.inl ⟨by rfl, ?_⟩) (by assumption) ?_
    rotate_left
    · first | (intro w hSw; (try dsimp only at hSw); go_simp; done) | (intro w hSw; (try dsimp only at hSw); go_simp; with_reducible rfl)
    simp only [Act.put, List.setIfInBounds_toArray, List.set_cons_zero, List.set_cons_succ]
    refine wpAnyH_take (i := 10) (oi := { dst := some 9, op := Op.assign (Operand.tmp 32), type := 4, pos := "cache.go:91", after := #[{ on := 8, ground := Ground.data }, { on := 9, ground := Ground.chain }, { on := 0, ground := Ground.phase }, { on := 1, ground := Ground.phase }, { on := 2, ground := Ground.phase }, { on := 3, ground := Ground.phase }, { on := 4, ground := Ground.phase }, { on := 5, ground := Ground.phase }, { on := 6, ground := Ground.phase }, { on := 7, ground := Ground.phase }, { on := 8, ground := Ground.phase }, { on := 9, ground := Ground.phase }], guard := none }) (v := ?_) rfl (by kernel_rfl) (by kernel_rfl) (by kernel_rfl) (fun _ _ _ h => h) (Or.inl ⟨by rfl, ?_⟩) (by assumption) ?_
    rotate_left
    · first | (intro w hSw; (try dsimp only at hSw); go_simp; done) | (intro w hSw; (try dsimp only at hSw); go_simp; with_reducible rfl)
    simp only [Act.put, List.setIfInBounds_toArray, List.set_cons_zero, List.set_cons_succ]
    refine wpAnyH_done (by kernel_rfl) ?_ _
    clear hHeld
    have hbz := build_zero
    go_upto_region 7 with (fail)
    refine wp_region_lit ?_
    iterate 3 go_step
    clear hbz
    refine wpList_store_mid rfl 47 (.tmp 4) (.tmp 35) rfl (w.heap.size + 1) 0 z64 rfl rfl ?_ ?_ z64_one ?_
    · exact HW65.out.there_
    · rw [z64_size]; exact info64
    have HWA : Hid (Whole (w5.setCells (w.heap.size + 1) 0 z64.toList) (w.heap.size + 1) 47 z64) := Lib.hid (HW65.out.setAll rfl)
    have HBA : Hid (Below w.heap.size w (w5.setCells (w.heap.size + 1) 0 z64.toList)) := Lib.hid (below_setCells w (w.heap.size + 1) _ 0 HBW5.out (by omega))
    generalize w5.setCells (w.heap.size + 1) 0 z64.toList = wA at *
    go_wp2_with fail
    refine bodyPost_ret (results_cell2 Tryd.results59 _ _ _ ⟨w.heap.size + 1, 0, none⟩ _ rfl (load_whole HWA.out 47 _ Tryd.underlying47 rfl (by rw [z64_size]; exact info64))) rfl ?_
    exact ⟨rfl, HBA.out⟩
set_option maxRecDepth 100000 in
set_option maxHeartbeats 1000000 in
theorem node_none (B cb pb H room : Nat) (ts : List T) (hs : List (List UInt8 × Value)) (v : Value) (os : List (List UInt8)) (s : T) (M : Nat) (ms : List (List UInt8 × Value)) (w : World) (hc : CAt w B cb pb H room ts hs v os)
    (hB : BAt w pb M ms) (hV : NVals ms) (hv0 : MAt.look ms s.sum = none) (hnos : s.sum ∉ os) :
    Calls Tryd.prog 27 #[.pointer (some ⟨cb, 0, none⟩), .agg (Sh.bcells s.sum)] w fun e w' => (∃ X : Array Value, (X.size = 68 ∧ X.all (fun c : Value => c.oneCell') = true) ∧ e = .returned (.tuple #[.agg X, .int .i64 11])) ∧ Below w.heap.size w w' := by
  have hz64 := zero64
  obtain ⟨h, hh⟩ : ∃ h, h = s.sum := ⟨_, rfl⟩
  have hl : h.length = 32 := by rw [hh]; exact sum32 s
  have hb0 : Below w.heap.size w ((w.alloc (.cells (Sh.bcells h) 29)).alloc (.cells z64 47)) := ((Below.refl _ _).alloc (Nat.le_refl _) _).alloc (by simp) _
  have hw4 := (Whole.made w 29 (Sh.bcells h)).alloc (.cells z64 47)
  have hw6 := Whole.made (w.alloc (.cells (Sh.bcells h) 29)) 47 z64
  have hsz : ((w.alloc (.cells (Sh.bcells h) 29)).alloc (.cells z64 47)).heap.size = w.heap.size + 2 := by simp
  rw [size_alloc] at hw6
  have hrd := read_none B cb pb H room ts hs v os s M ms ((w.alloc (.cells (Sh.bcells h) 29)).alloc (.cells z64 47)) (hc.below hb0) (hB.below hb0) hV hv0 hnos
  rw [← hh] at hrd
  rw [← hh]
  have HRD : Hid (Calls Tryd.prog 59 #[.pointer (some ⟨cb, 0, none⟩), .agg (h.map V8).toArray] ((w.alloc (.cells (Sh.bcells h) 29)).alloc (.cells z64 47)) (NonePost ((w.alloc (.cells (Sh.bcells h) 29)).alloc (.cells z64 47)))) := Lib.hid hrd
  have HI : Hid ((Tryd.prog.info? 29).map (·.size) = some (h.map V8).length) := Lib.hid (by rw [List.length_map, hl]; exact info49)
  have HRG : Hid (((w.alloc (.cells (Sh.bcells h) 29)).alloc (.cells z64 47)).rangeAt w.heap.size 0 (h.map V8)) := Lib.hid hw4.range
  have HC := Lib.hid hc
  have HB0 := Lib.hid hb0
  have HW6 := Lib.hid hw6
  have HSZ := Lib.hid hsz
  clear hc hb0 hw4 hw6 hsz hrd hB hV hv0 hnos hh
  go_enter Tryd.func27, Tryd.ntmps27
  go_upto_region 3 with (fail)
  generalize (w.alloc (.cells (Sh.bcells h) 29)).alloc (.cells z64 47) = w1 at *
  clear hz64
  refine wp_region_lit ?_
  iterate 3 go_step
  refine wpList_load_mid rfl 29 (.tmp 3) rfl w.heap.size 0 rfl (h.map V8) _ HRG.out Tryd.underlying29 rfl HI.out ?_
  simp only [Act.put, List.setIfInBounds_toArray, List.set_cons_zero, List.set_cons_succ]
  go_wp2_with fail
  refine HRD.out.mono ?_
  rintro e w2 ⟨rfl, hb2⟩
  have HWZ : Hid (Whole w2 (w.heap.size + 1) 47 z64) := Lib.hid (HW6.out.below hb2 HW6.out.lt)
  have HB2 := Lib.hid (HB0.out.trans (hb2.mono (by have := HSZ.out; omega)))
  have HXS : Hid (z64.size = 68 ∧ z64.all (·.oneCell') = true) := Lib.hid ⟨z64_size, z64_one⟩
  obtain ⟨X, hX⟩ : ∃ X, X = z64 := ⟨_, rfl⟩
  rw [← hX] at HXS ⊢
  have HXX := Lib.hid hX
  have HLT1 : Hid (w.heap.size + 1 < w2.heap.size) := Lib.hid HWZ.out.lt
  clear hb2 hX HRD HRG HI HW6
  have hz64 := zero64
  simp only []
  iterate 13 go_step
  clear hz64
  have hXi : (Tryd.prog.info? 47).map (·.size) = some X.size := by rw [HXS.out.1]; exact info64
  refine Tl.wpList_store_made rfl 47 (.tmp 6) (.tmp 15) rfl z64 X rfl rfl hXi (by rw [HXS.out.1]; rfl) HXS.out.2 ?_
  have hb3 : Below w2.heap.size w2 (w2.alloc (.cells X 47)) := (Below.refl _ _).alloc (Nat.le_refl _) _
  have HW8 := Lib.hid (Whole.made w2 47 X)
  have HB3 := Lib.hid hb3
  clear hXi hb3
  generalize w2.alloc (.cells X 47) = w3 at *
  have hW8 := HW8.out
  rw [HXX.out] at hW8
  have c0 : w3.drew.cell? ⟨w2.heap.size, 0, none⟩ = some (.slice none 0 0) := hW8.at_ rfl
  have c1 : w3.drew.cell? ⟨w2.heap.size, 1, none⟩ = some (.slice none 0 0) := hW8.at_ rfl
  have HW3 : Hid (Whole w3.drew w2.heap.size 47 (acells (.slice none 0 0) (.slice none 0 0) 0 0 z32 z32).toArray) := Lib.hid hW8
  have HBD := Lib.hid HB3.out.drew
  have HG6 : Hid (w2.heap.size ≤ w2.heap.size) := Lib.hid (Nat.le_refl _)
  clear hW8 HW8 HB3
  go_upto_region 4 with (fail)
  have HC1 := Lib.hid (clone_any none 0 0 [] w3.drew Rd.nil (by omega))
  have hS0 : w3.drew.cell? ⟨w2.heap.size, 0, none⟩ = some (.slice none 0 0) ∧ w3.drew.cell? ⟨w2.heap.size, 1, none⟩ = some (.slice none 0 0) := ⟨c0, c1⟩
  clear c0 c1
  have hlt3 : w2.heap.size < w3.drew.heap.size := HW3.out.lt
  refine wp_region_late (S := fun u => u.cell? ⟨w2.heap.size, 0, none⟩ = some (.slice none 0 0) ∧ u.cell? ⟨w2.heap.size, 1, none⟩ = some (.slice none 0 0)) (late := (7 ≤ ·)) (by kernel_rfl) ?_
  refine wpLate_take (i := 0) (oi := { dst := some 17, op := Op.fieldAddr 47 (Operand.tmp 6) 0, type := 0, pos := "cache.go:38", after := #[], guard := none }) (v := ?_) rfl (by kernel_rfl) (by kernel_rfl) (by kernel_rfl) (by kernel_rfl) (fun _ _ _ h => h) (Or.inl ⟨by rfl, ?_⟩) (by assumption) ?_
  rotate_left
  · first | (intro w hSw; (try dsimp only at hSw); go_simp; done) | (intro w hSw; (try dsimp only at hSw); go_simp; with_reducible rfl)
  simp only [Act.put, List.setIfInBounds_toArray, List.set_cons_zero, List.set_cons_succ]
  refine wpLate_take (i := 1) (oi := { dst := some 18, op := Op.load 31 (Operand.tmp 17), type := 31, pos := "cache.go:38", after := #[{ on := 0, ground := Ground.data }], guard := none }) (v := ?_) rfl (by kernel_rfl) (by kernel_rfl) (by kernel_rfl) (by kernel_rfl) (fun _ _ _ h => h) (Or.inl ⟨by rfl, ?_⟩) (by assumption) ?_
  rotate_left
  · first | (intro w hSw; (try dsimp only at hSw); go_simp; done) | (intro w hSw; (try dsimp only at hSw); go_simp; with_reducible rfl)
  simp only [Act.put, List.setIfInBounds_toArray, List.set_cons_zero, List.set_cons_succ]
  refine wpLate_take (i := 3) (oi := { dst := some 20, op := Op.fieldAddr 47 (Operand.tmp 6) 1, type := 0, pos := "cache.go:38", after := #[], guard := none }) (v := ?_) rfl (by kernel_rfl) (by kernel_rfl) (by kernel_rfl) (by kernel_rfl) (fun _ _ _ h => h) (Or.inl ⟨by rfl, ?_⟩) (by assumption) ?_
  rotate_left
  · first | (intro w hSw; (try dsimp only at hSw); go_simp; done) | (intro w hSw; (try dsimp only at hSw); go_simp; with_reducible rfl)
  simp only [Act.put, List.setIfInBounds_toArray, List.set_cons_zero, List.set_cons_succ]
  refine wpLate_take (i := 4) (oi := { dst := some 21, op := Op.load 31 (Operand.tmp 20), type := 31, pos := "cache.go:38", after := #[{ on := 3, ground := Ground.data }], guard := none }) (v := ?_) rfl (by kernel_rfl) (by kernel_rfl) (by kernel_rfl) (by kernel_rfl) (fun _ _ _ h => h) (Or.inl ⟨by rfl, ?_⟩) (by assumption) ?_
  rotate_left
  · first | (intro w hSw; (try dsimp only at hSw); go_simp; done) | (intro w hSw; (try dsimp only at hSw); go_simp; with_reducible rfl)
  simp only [Act.put, List.setIfInBounds_toArray, List.set_cons_zero, List.set_cons_succ]
  generalize w3.drew = w4 at *
  refine wpLate_ready (rs := [2]) (by kernel_rfl) (by simp) ?_
  refine AllLate.cons rfl (fun K hK => ?_) AllLate.nil
  go_simp
  refine HC1.out.mono ?_
  rintro e w5 ⟨A5, n5, c5, rfl, hr5, hnc5, hb5⟩
  have hS5 : w5.cell? ⟨w2.heap.size, 0, none⟩ = some (.slice none 0 0) ∧ w5.cell? ⟨w2.heap.size, 1, none⟩ = some (.slice none 0 0) := ⟨(hb5.cell (p := ⟨w2.heap.size, 0, none⟩) hlt3).trans hS0.1, (hb5.cell (p := ⟨w2.heap.size, 1, none⟩) hlt3).trans hS0.2⟩
  refine hK.out _ _ (fun _ => hS5) ?_
  have HC2' := Lib.hid (clone_any none 0 0 [] w5 Rd.nil (by omega))
  have HW5 := Lib.hid (HW3.out.below hb5 hlt3)
  have HB5 := Lib.hid (HBD.out.trans (hb5.mono (Nat.le_of_lt hlt3)))
  have hlt5 : w2.heap.size < w5.heap.size := Nat.lt_of_lt_of_le hlt3 hb5.size
  clear hK K hr5 hb5 HC1 HW3 HBD hlt3 hS0
  have hS0 := hS5
  clear hS5
  try simp only [Act.put, List.setIfInBounds_toArray, List.set_cons_zero, List.set_cons_succ]
  refine wpLate_take (i := 6) (oi := { dst := some 23, op := Op.fieldAddr 47 (Operand.tmp 6) 0, type := 0, pos := "cache.go:38", after := #[{ on := 0, ground := Ground.phase }, { on := 1, ground := Ground.phase }, { on := 2, ground := Ground.phase }, { on := 3, ground := Ground.phase }, { on := 4, ground := Ground.phase }, { on := 5, ground := Ground.textOnly Departure.lateStoresUnsure }], guard := none }) (v := ?_) rfl (by kernel_rfl) (by kernel_rfl) (by kernel_rfl) (by kernel_rfl) (fun _ _ _ h => h) (Or.inl ⟨by rfl, ?_⟩) (by assumption) ?_
  rotate_left
  · first | (intro w hSw; (try dsimp only at hSw); go_simp; done) | (intro w hSw; (try dsimp only at hSw); go_simp; with_reducible rfl)
  simp only [Act.put, List.setIfInBounds_toArray, List.set_cons_zero, List.set_cons_succ]
  refine wpLate_ready (rs := [5]) (by kernel_rfl) (by simp) ?_
  refine AllLate.cons rfl (fun K hK => ?_) AllLate.nil
  go_simp
  refine HC2'.out.mono ?_
  rintro e w6 ⟨A6, n6, c6, rfl, hr6, hnc6, hb6⟩
  have hS6 : w6.cell? ⟨w2.heap.size, 0, none⟩ = some (.slice none 0 0) ∧ w6.cell? ⟨w2.heap.size, 1, none⟩ = some (.slice none 0 0) := ⟨(hb6.cell (p := ⟨w2.heap.size, 0, none⟩) hlt5).trans hS0.1, (hb6.cell (p := ⟨w2.heap.size, 1, none⟩) hlt5).trans hS0.2⟩
  refine hK.out _ _ (fun _ => hS6) ?_
  have hW6 := HW5.out.below hb6 hlt5
  have HB6 := Lib.hid (HB5.out.trans (hb6.mono (Nat.le_of_lt hlt5)))
  obtain ⟨s0, s1⟩ := hS6
  clear hK K hr6 hb6 HC2' HW5 HB5 hlt5 hS0
  have f0 := hW6.free 0
  have HW6 := Lib.hid hW6
  clear hW6
  refine wpLate_ready (rs := [7]) (by kernel_rfl) (by simp) ?_
  refine AllLate.cons rfl (fun K hK => ?_) AllLate.nil
  go_simp
  refine hK.out _ _ (fun h => absurd h (by decide)) ?_
  clear hK K f0
  have hW7 := HW6.out.set 0 (.slice A5 n5 c5)
  have hB7 : Below w2.heap.size w2 (w6.setCell ⟨w2.heap.size, 0, none⟩ (.slice A5 n5 c5)) := HB6.out.setCell (p := ⟨w2.heap.size, 0, none⟩) (Nat.le_refl _) _
  have s1' : (w6.setCell ⟨w2.heap.size, 0, none⟩ (.slice A5 n5 c5)).cell? ⟨w2.heap.size, 1, none⟩ = some (.slice none 0 0) := hW7.at_ rfl
  have f1 := hW7.free 1
  have HW7 := Lib.hid hW7
  have HB7 := Lib.hid hB7
  clear hW7 hB7 s0 s1 HW6 HB6
  generalize w6.setCell ⟨w2.heap.size, 0, none⟩ (.slice A5 n5 c5) = w7 at *
  refine wpLate_ready (rs := [8]) (by kernel_rfl) (by simp) ?_
  refine AllLate.cons rfl (fun K hK => ?_) AllLate.nil
  go_simp
  refine hK.out _ _ (fun h => absurd h (by decide)) ?_
  clear hK K
  refine wpLate_ready (rs := [9]) (by kernel_rfl) (by simp) ?_
  refine AllLate.cons rfl (fun K hK => ?_) AllLate.nil
  go_simp
  refine hK.out _ _ (fun h => absurd h (by decide)) ?_
  clear hK K f1 s1'
  have HW8 := Lib.hid (HW7.out.set 1 (.slice A6 n6 c6))
  have HB8 := Lib.hid (HB7.out.setCell (p := ⟨w2.heap.size, 1, none⟩) (Nat.le_refl _) (.slice A6 n6 c6))
  clear HW7 HB7
  generalize w7.setCell ⟨w2.heap.size, 1, none⟩ (.slice A6 n6 c6) = w8 at *
  refine wpLate_done (by kernel_rfl) ?_ _
  obtain ⟨Y, hY⟩ : ∃ Y : Array Value, Y = (acells (.slice A5 n5 c5) (.slice A6 n6 c6) 0 0 z32 z32).toArray := ⟨_, rfl⟩
  have hW8 : Whole w8 w2.heap.size 47 Y := by rw [hY]; exact HW8.out
  have hYS : Y.size = 68 ∧ Y.all (·.oneCell') = true := by rw [hY]; exact acells_ok rfl rfl rfl rfl
  have HY := Lib.hid hYS
  have HWY := Lib.hid hW8
  have HWZ8 := Lib.hid (HWZ.out.below HB8.out HWZ.out.lt)
  clear hY hW8 hYS HW8
  go_upto_region 5 with (fail)
  refine wp_region_lit ?_
  refine wpList_load_mid rfl 47 (.tmp 6) rfl w2.heap.size 0 rfl Y.toList _ HWY.out.range Tryd.underlying47 rfl (by rw [Array.length_toList, HY.out.1]; exact info64) ?_
  simp only [Act.put, List.setIfInBounds_toArray, List.set_cons_zero, List.set_cons_succ, Array.toArray_toList]
  iterate 3 go_step
  refine wpList_store_mid rfl 47 (.tmp 4) (.tmp 25) rfl (w.heap.size + 1) 0 Y rfl rfl ?_ ?_ HY.out.2 ?_
  · rw [HY.out.1]; exact HWZ8.out.there_
  · rw [HY.out.1]; exact info64
  have HWA : Hid (Whole (w8.setCells (w.heap.size + 1) 0 Y.toList) (w.heap.size + 1) 47 Y) := Lib.hid (HWZ8.out.setAll (by rw [HY.out.1]; rfl))
  have HKA : Hid (∀ k, k ≠ w.heap.size + 1 → (w8.setCells (w.heap.size + 1) 0 Y.toList).heap[k]? = w8.heap[k]?) := Lib.hid (fun k hk => heap_setCells_other (w.heap.size + 1) k hk Y.toList 0 w8)
  have HBA : Hid (Below (w.heap.size + 1) w8 (w8.setCells (w.heap.size + 1) 0 Y.toList)) := Lib.hid (below_setCells w8 (w.heap.size + 1) _ 0 (Below.refl _ _) (Nat.le_refl _))
  generalize w8.setCells (w.heap.size + 1) 0 Y.toList = wA at *
  go_wp2_with fail
  refine bodyPost_ret (results_cell2 Tryd.results27 _ _ _ ⟨w.heap.size + 1, 0, none⟩ _ rfl (load_whole HWA.out 47 _ Tryd.underlying47 rfl (by rw [HY.out.1]; exact info64))) rfl ?_
  refine ⟨⟨Y, HY.out, rfl⟩, ?_⟩
  have h8 : Below w.heap.size w w8 := HB2.out.trans (HB8.out.mono HB2.out.size)
  exact h8.trans (HBA.out.mono (by omega))
end Go.Proofs.YtolkpjbbfopmnaaDoor
namespace Go.Proofs.YtolkpjbbfopmnaaDoor
open Go.RowKit
open Tr

theorem results_tmp4 {fn : Func} {t u v x : Tmp} (h : fn.results = #[.tmp t, .tmp u, .tmp v, .tmp x]) (tmps : Array Value) (P : Program) (w : World) :
    (results fn tmps).run P w = .ok (.tuple #[tmps.getD t undef, tmps.getD u undef, tmps.getD v undef, tmps.getD x undef]) w := by
  simp [results, h]
theorem leaves_all : ∀ (t : T) (s : T), s ∈ t.all → ∀ p ∈ s.leaves, p ∈ t.leaves
  | .leaf k v, s, hs, p, hp => by
    have e : s = .leaf k v := by simpa [T.all] using hs
    rw [← e]; exact hp
  | .node l r, s, hs, p, hp => by
    simp only [T.all, List.mem_cons, List.mem_append] at hs
    rcases hs with e | h | h
    · rw [← e]; exact hp
    · simp only [T.leaves, List.mem_append]; exact .inl (leaves_all l s h p hp)
    · simp only [T.leaves, List.mem_append]; exact .inr (leaves_all r s h p hp)
theorem grow_keys_all {m : Nat} {cs : List Ac} {t : T} (h : grow m cs none = some t) : ∀ s ∈ t.all, 1 ≤ s.key.length := fun s hs => by
  obtain ⟨v, hv⟩ := key_leaf s
  refine grow_keys m cs none Fine.none (fun p hp => by cases hp) (s.key, v) ?_
  rw [h]
  exact leaves_all t s hs _ hv
def oallT : Option T → List T
  | none => []
  | some t => t.all
def MadePost (w : World) (room : Nat) (o : Option T) (e : Ending) (w' : World) : Prop :=
  ∃ g pb M cb H ms wb, e = .returned (.tuple #[ptr (some g), ptr (some pb), ptr (some cb), .int .i64 0]) ∧ TIn (fun b => b ≠ M) wb wb.heap.size o g ∧ BAt wb pb M ms ∧ NVals ms ∧ w.heap.size ≤ wb.heap.size ∧ Below wb.heap.size wb w' ∧ CAt w' wb.heap.size cb pb H room (oallT o) [] (.slice none 0 0) [] ∧
    (∀ t, o = some t → Apart (texts t.all) → ∀ s ∈ t.all, ∃ v0, MAt.look ms s.sum = some v0 ∧ NodeV wb 0 s v0) ∧ (∀ t, o = some t → ∀ p ∈ ms, ∃ s' ∈ t.all, p.1 = s'.sum ∧ NodeV wb 0 s' p.2) ∧ (∀ t, o = some t → ∀ s ∈ t.all, 1 ≤ s.key.length) ∧ oln o ≤ 50 ∧ Below w.heap.size w w'
theorem full_look {t : T} {ms : List (List UInt8 × Value)} {B : Nat} {w : World} (h : SNew [] t ms B w) (ha : Apart (texts t.all)) : ∀ s ∈ t.all, ∃ v0, MAt.look ms s.sum = some v0 ∧ NodeV w 0 s v0 := fun s hs => by
  have h1 := skeys_full ha s hs
  have h2 : s.sum ∈ ms.map (·.1) := by rw [h.1]; exact h1
  cases hq : MAt.look ms s.sum with
  | none => exact absurd h2 ((look_none_iff ms _).1 hq)
  | some v0 =>
    refine ⟨v0, rfl, ?_⟩
    rcases h.2 _ (look_mem hq) with h3 | ⟨s', h3, h4, h5⟩
    · cases h3
    · have e : s = s' := inj_all ha s hs s' h3 h4
      rw [e]
      exact node_more h5 (Nat.zero_le _)
set_option maxRecDepth 100000 in
set_option maxHeartbeats 600000 in
theorem made_any (A : Option Addr) (n c : Nat) (cs : List Ac) (rm : Nat) (w : World) (hc : ARd w w.heap.size A n cs) (hn : n ≤ 9223372036854775807) (h1 : 1 ≤ rm) (h2 : rm ≤ 4096) (ht : Sh.Tab w 1) (hw : 1 < w.heap.size) :
    Calls Tryd.prog 25 #[.slice A n c, .int .i64 rm] w (MadePost w rm (grow 50 cs none)) := by
  have HGR := Lib.hid (grow_any All A n c cs 50 w hc hn (by omega) ht (room hw))
  have HT := Lib.hid ht
  clear hc ht
  go_enter Tryd.func25, Tryd.ntmps25
  go_wp2_with fail
  refine HGR.out.mono ?_
  rintro e w1 ⟨g, A2, n2, c2, rfl, hT1, _, _, _, _, hm1, hb1⟩
  have HKY : Hid (∀ t, grow 50 cs none = some t → ∀ s ∈ t.all, 1 ≤ s.key.length) := Lib.hid (fun t e => grow_keys_all e)
  generalize grow 50 cs none = o at *
  have HT1 := Lib.hid hT1
  have HB1 := Lib.hid hb1
  have HM1 := Lib.hid hm1
  clear hT1 hb1 hm1 HGR
  have HBN := Lib.hid (base_new w1)
  go_wp2_with fail
  refine HBN.out.mono ?_
  rintro e w2 ⟨pb, M, rfl, hB2, hpb, hM, hb2⟩
  have hT2 : TIn (fun b => b ≠ M) w2 w2.heap.size o g := ((HT1.out.regood (fun b hb _ => by omega)).below hb2 (Nat.le_refl _)).more hb2.size
  have HSV := Lib.hid (save_tree pb M g o [] w2 hB2 (fun p hp => by cases hp) hT2 (fun t e => by have h1 := HM1.out; rw [e] at h1; have h2 : oln (some t) = t.n := rfl; omega) (Sh.tab_below HT.out (HB1.out.trans (hb2.mono HB1.out.size)) hw) (by have := HB1.out.size; have := hb2.size; omega))
  rw [ptr_some, ptr_some] at HSV
  have HB2 := Lib.hid (And.intro hpb (And.intro hM hb2))
  have HT2 := Lib.hid hT2
  clear hB2 hpb hM hb2 hT2 HBN HT1
  rw [ptr_some, ptr_some]
  go_wp2_with fail
  refine HSV.out.mono ?_
  rintro e w3 ⟨rfl, ms, hB3, hV3, -, hn3, he3, hf3, hsn3⟩
  have HB3 := Lib.hid hB3
  have HS3 := Lib.hid (And.intro hV3 (And.intro hf3 hsn3))
  have HN := Lib.hid (cache_new pb rm h1 h2 w3)
  clear hB3 hV3 hn3 he3 hf3 hsn3 HSV
  go_wp2_with fail
  refine HN.out.mono ?_
  rintro e w4 ⟨cb, H, rfl, hW4, hH4, hne, hcb, hH, hb4⟩
  have HF := Lib.hid (And.intro hW4 (And.intro hH4 (And.intro hne (And.intro hcb (And.intro hH hb4)))))
  clear hW4 hH4 hne hcb hH hb4 HN
  simp only []
  go_wp2_with fail
  (try simp only [Exit.inBlock, Exit.then])
  refine bodyPost_ret (results_tmp4 rfl _ _ _) rfl ?_
  obtain ⟨hW4, hH4, hne, hcb, hH, hb4⟩ := HF.out
  obtain ⟨hV3, hf3, hsn3⟩ := HS3.out
  obtain ⟨hpb, hM, hb2⟩ := HB2.out
  have hs1 := HB1.out.size
  have hs2 := hb2.size
  have hs3 := hf3.size
  have hs4 := hb4.size
  have hT3 : TIn (fun b => b ≠ M) w3 w3.heap.size o g := (tin_fr HT2.out hf3 (Nat.le_refl _) (fun r hr => by cases hr)).more hs3
  refine ⟨g, pb, M, cb, H, ms, w3, rfl, hT3, HB3.out, hV3, by omega, hb4, ?_, ?_, ?_, HKY.out, HM1.out, ?_⟩
  · exact ⟨hW4, hH4, .inl (World.ownsRow_nil _ _ _ _), hcb, hH, hne, fun e => (by cases e), fun e => (by cases e), fun q hq => (by cases hq), List.nodup_nil, fun x hx => (by cases hx), List.Perm.refl _, Nat.zero_le _, fun p hp => by cases hp⟩
  · intro t e ha s hs
    exact full_look (hsn3 t e) ha s hs
  · intro t e p hp
    rcases (hsn3 t e).2 p hp with h | ⟨s', h1, h2, h3⟩
    · cases h
    · exact ⟨s', h1, h2, node_more h3 (Nat.zero_le _)⟩
  · have h13 : Below w1.heap.size w1 w3 := fr_over hb2 hf3 hs2 hM
    exact HB1.out.trans ((h13.trans (hb4.mono (by omega))).mono (by omega))
end Go.Proofs.YtolkpjbbfopmnaaDoor
