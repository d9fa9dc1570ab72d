/-
  How a log of versions lies in memory, and what its New and Last return: conditions: the log lies in memory.
  A row of trees: what slices.Clone and slices.Delete return: conditions: the row is read, or is the call's own.
  A version more: what a log's Commit returns: conditions: log and tree lie in memory. Only the log's block turns.
  A version that is kept: what a log's At returns: condition: the log lies in memory. It only makes memory of its own.
  A tree's root where a row keeps the tree; a log's Roots: conditions: the log lies in memory, the table holds its words. It only makes memory of its own.
  A log's Roots: conditions: the log lies in memory, the table holds its words. It only makes memory of its own.
  The fixed fact of layer 6's laws: Awake returns true; condition: the table holds its words. It only makes memory of its own.
-/
import Derived.Test.YtbhmldoehgkhfaaDoorNodeA
import Derived.Test.YtbhmldoehgkhfaaDoorAbove
import Derived.Test.YtbhmldoehgkhfaaDoorFindA
namespace Go.Proofs.YtbhmldoehgkhfaaDoor
open Go.RowKit
open Tr

/-- Only block l has turned, of those that were there. -/
structure Turn (l : Nat) (w w' : World) : Prop where
  os : w'.os = w.os
  tape : w'.tape = w.tape
  output : w'.output = w.output
  size : w.heap.size ≤ w'.heap.size
  block : ∀ k, k < w.heap.size → k ≠ l → w'.heap[k]? = w.heap[k]?
theorem Turn.refl (l : Nat) (w : World) : Turn l w w := ⟨rfl, rfl, rfl, Nat.le_refl _, fun _ _ _ => rfl⟩
theorem Turn.trans {l : Nat} {a b c : World} (h : Turn l a b) (k : Turn l b c) : Turn l a c :=
  ⟨k.os.trans h.os, k.tape.trans h.tape, k.output.trans h.output, Nat.le_trans h.size k.size, fun i hi hn => (k.block i (Nat.lt_of_lt_of_le hi h.size) hn).trans (h.block i hi hn)⟩
theorem Turn.of_below {l : Nat} {w w' : World} (h : Below w.heap.size w w') : Turn l w w' := ⟨h.os, h.tape, h.output, h.size, fun k hk _ => h.block k hk⟩
theorem Turn.below {l B : Nat} {w w' : World} (h : Turn l w w') (hB : B ≤ l) (hB2 : B ≤ w.heap.size) : Below B w w' := ⟨h.os, h.tape, h.output, h.size, fun k hk => h.block k (by omega) (by omega)⟩
theorem Turn.set {l : Nat} {a w : World} (h : Turn l a w) (i : Nat) (u : Value) : Turn l a (w.setCell ⟨l, i, none⟩ u) :=
  ⟨h.os, h.tape, h.output, by simpa using h.size, fun k hk hn => (Below.heap_setCell w ⟨l, i, none⟩ u k hn).trans (h.block k hk hn)⟩
theorem Turn.drewN {l : Nat} {a w : World} (h : Turn l a w) (n : Nat) : Turn l a (w.drewN n) := ⟨h.os, h.tape, h.output, h.size, h.block⟩
/-- What lies outside of block l stays. -/
abbrev Out (l : Nat) : Nat → Prop := fun b => b ≠ l
theorem Turn.keep {l : Nat} {w w' : World} (h : Turn l w w') : ∀ b, b < w.heap.size → Out l b → w'.heap[b]? = w.heap[b]? := fun b hb hn => h.block b hb hn
theorem room_out {l : Nat} {w : World} (h : l < w.heap.size) (h1 : 1 < w.heap.size) : Room (Out l) w := ⟨h1, fun b hb => by show b ≠ l; omega⟩
theorem TIn.turn {G : Nat → Prop} {l g : Nat} {w w' : World} {o : Option T} (hG : ∀ b, G b → b ≠ l) (h : TIn G w w.heap.size o g) (ht : Turn l w w') : TIn G w' w'.heap.size o g := (h.keepG fun b hb hg => ht.keep b hb (hG b hg)).more ht.size
theorem PIn.turn {G : Nat → Prop} {l : Nat} {w w' : World} {o : Option T} {p : Option Nat} (hG : ∀ b, G b → b ≠ l) (h : PIn G w w.heap.size o p) (ht : Turn l w w') : PIn G w' w'.heap.size o p := (h.keepG fun b hb hg => ht.keep b hb (hG b hg)).more ht.size
theorem Whole.turn {l g : Nat} {t : TypeId} {cs : Array Value} {w w' : World} (h : Whole w g t cs) (hg : g ≠ l) (ht : Turn l w w') : Whole w' g t cs := (ht.block g h.lt hg).trans h

/-- What a cell of a row of trees holds. -/
def PAll (G : Nat → Prop) (w : World) (B : Nat) (ts : List (Option T)) (ps : List (Option Nat)) : Prop := ps.length = ts.length ∧ ∀ (i : Nat) (t : Option T) (p : Option Nat), ts[i]? = some t → ps[i]? = some p → PIn G w B t p
theorem PAll.mono {G G' : Nat → Prop} {w w' : World} {B B' : Nat} {ts : List (Option T)} {ps : List (Option Nat)} (h : PAll G w B ts ps) (hm : ∀ t p, PIn G w B t p → PIn G' w' B' t p) : PAll G' w' B' ts ps :=
  ⟨h.1, fun i t p h1 h2 => hm t p (h.2 i t p h1 h2)⟩
theorem PAll.nil {G : Nat → Prop} {w : World} {B : Nat} : PAll G w B [] [] := ⟨rfl, fun i t p h => by simp at h⟩
theorem PAll.snoc {G : Nat → Prop} {w : World} {B : Nat} {ts : List (Option T)} {ps : List (Option Nat)} (h : PAll G w B ts ps) {t : Option T} {p : Option Nat} (hp : PIn G w B t p) : PAll G w B (ts ++ [t]) (ps ++ [p]) := by
  refine ⟨by simp [h.1], fun i u q h1 h2 => ?_⟩
  by_cases hi : i < ts.length
  · rw [List.getElem?_append_left hi] at h1
    rw [List.getElem?_append_left (by rw [h.1]; exact hi)] at h2
    exact h.2 i u q h1 h2
  · rw [List.getElem?_append_right (by omega)] at h1
    rw [List.getElem?_append_right (by rw [h.1]; omega), h.1] at h2
    have : i - ts.length < 1 := (List.getElem?_eq_some_iff.1 h1).1
    obtain hz : i - ts.length = 0 := by omega
    rw [hz] at h1 h2
    simp at h1 h2
    subst h1 h2
    exact hp
theorem PAll.drop {G : Nat → Prop} {w : World} {B : Nat} {ts : List (Option T)} {ps : List (Option Nat)} (h : PAll G w B ts ps) (k : Nat) : PAll G w B (ts.drop k) (ps.drop k) := by
  refine ⟨by simp [h.1], fun i u q h1 h2 => ?_⟩
  rw [List.getElem?_drop] at h1 h2
  exact h.2 _ u q h1 h2

/-- Block l is a log: so many are kept, so many were, and those that are kept. -/
structure LHas (G : Nat → Prop) (w : World) (l keep last : Nat) (ts : List (Option T)) (A : Option Addr) (n c : Nat) (ps : List (Option Nat)) : Prop where
  lt : l < w.heap.size
  whole : Whole w l 107 #[.int .i64 keep, .int .u64 last, .slice A n c]
  nc : n ≤ c
  row : RdV w w.heap.size 1 A n (ps.map ptr)
  out : 0 < n → ∀ b o, A = some ⟨b, o, none⟩ → G b
  apart : ∀ b, G b → b ≠ l
  all : PAll G w w.heap.size ts ps
  k1 : 1 ≤ keep
  k64 : keep ≤ 64
  few : ts.length ≤ keep
  old : ts.length ≤ last
def LIn (G : Nat → Prop) (w : World) (l keep last : Nat) (ts : List (Option T)) : Prop := ∃ A n c ps, LHas G w l keep last ts A n c ps
theorem LHas.len {G : Nat → Prop} {w : World} {l keep last n c : Nat} {ts : List (Option T)} {A : Option Addr} {ps : List (Option Nat)} (h : LHas G w l keep last ts A n c ps) : ts.length = n := by
  have h1 := h.row.1
  have h2 := h.all.1
  rw [List.length_map] at h1
  omega
theorem LIn.on {G : Nat → Prop} {w w' : World} {l keep last : Nat} {ts : List (Option T)} (h : LIn G w l keep last ts) (hb : Below w.heap.size w w') : LIn G w' l keep last ts := by
  obtain ⟨A, n, c, ps, h⟩ := h
  exact ⟨A, n, c, ps, Nat.lt_of_lt_of_le h.lt hb.size, h.whole.below hb h.lt, h.nc, (h.row.below hb (Nat.le_refl _)).more hb.size, h.out, h.apart, h.all.mono fun t p hp => (hp.below hb (Nat.le_refl _)).more hb.size, h.k1, h.k64, h.few, h.old⟩
theorem LIn.lt {G : Nat → Prop} {w : World} {l keep last : Nat} {ts : List (Option T)} (h : LIn G w l keep last ts) : l < w.heap.size := by obtain ⟨_, _, _, _, h⟩ := h; exact h.lt

/-- A new log. -/
def LNew (w : World) (k : Nat) (e : Ending) (w' : World) : Prop := ∃ l, e = .returned (.tuple #[ptr (some l), .int .i64 0]) ∧ w.heap.size ≤ l ∧ LIn (Out l) w' l k 0 [] ∧ Below w.heap.size w w'
theorem lnew_ok (k : Nat) (h1 : 1 ≤ k) (h2 : k ≤ 64) (w : World) : Calls Tryd.prog 35 #[.int .i64 k] w (LNew w k) := by
  go_enter Tryd.func35, Tryd.ntmps35
  go_wp2_with fail
  go_ret2
  exact ⟨w.heap.size, rfl, Nat.le_refl _, ⟨none, 0, 0, [], by simp, Whole.made w 107 _, Nat.le_refl _, RdV.nil, fun h => absurd h (by omega), fun _ h => h, PAll.nil, h1, h2, Nat.zero_le _, Nat.zero_le _⟩, (Below.refl _ _).alloc (Nat.le_refl _) _⟩
theorem lnew_bad (k : Int) (h : k < 1 ∨ 64 < k) (w : World) : Calls Tryd.prog 35 #[.int .i64 k] w fun e w' => e = .returned (.tuple #[.pointer none, .int .i64 2]) ∧ w = w' := by
  rcases h with h | h
  · go_enter Tryd.func35, Tryd.ntmps35
    go_wp2_with fail
    go_ret2
    exact ⟨rfl, rfl⟩
  · have h1 : ¬ k < 1 := by omega
    go_enter Tryd.func35, Tryd.ntmps35
    go_wp2_with fail
    go_ret2
    exact ⟨rfl, rfl⟩
theorem last_nil (w : World) : Calls Tryd.prog 37 #[.pointer none] w fun e w' => e = .returned (.int .u64 0) ∧ w = w' := by
  go_enter Tryd.func37, Tryd.ntmps37
  go_wp2_with fail
  go_ret
  exact ⟨rfl, rfl⟩
theorem last_any {G : Nat → Prop} (w : World) (l keep last : Nat) (ts : List (Option T)) (h : LIn G w l keep last ts) : Calls Tryd.prog 37 #[ptr (some l)] w fun e w' => e = .returned (.int .u64 last) ∧ w = w' := by
  obtain ⟨A, n, c, ps, h⟩ := h
  have c1 := h.whole.at_ (i := 1) rfl
  clear h
  rw [ptr_some]
  go_enter Tryd.func37, Tryd.ntmps37
  go_wp2_with fail
  go_ret
  exact ⟨rfl, rfl⟩
theorem commit_nolog (w : World) (p : Option Addr) : Calls Tryd.prog 36 #[.pointer none, .pointer p] w fun e w' => e = .returned (.tuple #[.int .u64 0, .int .i64 1]) ∧ w = w' := by
  go_enter Tryd.func36, Tryd.ntmps36
  go_wp2_with fail
  go_ret2
  exact ⟨rfl, rfl⟩
theorem commit_notree (w : World) (l : Nat) : Calls Tryd.prog 36 #[ptr (some l), .pointer none] w fun e w' => e = .returned (.tuple #[.int .u64 0, .int .i64 1]) ∧ w = w' := by
  rw [ptr_some]
  go_enter Tryd.func36, Tryd.ntmps36
  go_wp2_with fail
  go_ret2
  exact ⟨rfl, rfl⟩
theorem at_nolog (w : World) (n : Nat) : Calls Tryd.prog 39 #[.pointer none, .int .u64 n] w fun e w' => e = .returned (.tuple #[.pointer none, .int .i64 1]) ∧ w = w' := by
  go_enter Tryd.func39, Tryd.ntmps39
  go_wp2_with fail
  go_ret2
  exact ⟨rfl, rfl⟩
theorem roots_nolog (w : World) : Calls Tryd.prog 38 #[.pointer none] w fun e w' => e = .returned (.slice none 0 0) ∧ w = w' := by
  go_enter Tryd.func38, Tryd.ntmps38
  go_wp2_with fail
  go_ret
  exact ⟨rfl, rfl⟩
end Go.Proofs.YtbhmldoehgkhfaaDoor
namespace Go.Proofs.YtbhmldoehgkhfaaDoor
open Go.RowKit
open Tr

theorem info88t : (Tryd.prog.info? 88).map (fun i => (i.zero, i.size, i.bytes)) = some (some (.agg #[.pointer none]), 1, 8) := by kernel_rfl
theorem info88s : (Tryd.prog.info? 88).map (·.size) = some 1 := by kernel_rfl
theorem zero88t : ∀ w, (zeroValue 88).run Tryd.prog w = .ok (.agg #[.pointer none]) w := (zero_of_info (P := Tryd.prog) (t := 88) (v := .agg #[.pointer none]) (n := 1) (by kernel_rfl)).1
theorem one_ptrs (ps : List (Option Nat)) : ∀ u ∈ ps.map ptr, u.oneCell' = true := by
  intro u hu
  simp only [List.mem_map] at hu
  obtain ⟨y, _, rfl⟩ := hu
  rfl

def TClone (w : World) (n : Nat) (xs : List Value) (e : Ending) (w' : World) : Prop := ∃ v, e = .returned v ∧ w'.ownsRow w.heap.size 88 1 v n xs ∧ Below w.heap.size w w'
theorem cloneT_any (A : Option Addr) (n c : Nat) (xs : List Value) (w : World) (hr : RdV w w.heap.size 1 A n xs) (h1 : ∀ u ∈ xs, u.oneCell' = true) (hn : n ≤ 1000) :
    Calls Tryd.prog 61 #[.slice A n c] w (TClone w n xs) := by
  have HR := Lib.hid (And.intro hr h1)
  clear hr h1
  have heq := fun w : World => Lib.run_eql_slice_nil (P := Tryd.prog) w 105 88 A n c 0 0 Tryd.underlying105
  cases A with
  | none =>
    go_enter Tryd.func61, Tryd.ntmps61
    go_wp2_with fail
    go_ret
    have hn0 : n = 0 := by
      rcases Nat.eq_zero_or_pos n with h0 | h0
      · exact h0
      · obtain ⟨_, _, e, _⟩ := HR.out.1.2 h0; cases e
    subst hn0
    obtain rfl : xs = [] := List.eq_nil_of_length_eq_zero (by simpa using HR.out.1.1)
    exact ⟨_, rfl, World.ownsRow_nil _ _ _ _, Below.refl _ _⟩
  | some ad =>
    go_enter Tryd.func61, Tryd.ntmps61
    go_upto_region 3 with (fail)
    refine wp_region_lit ?_
    iterate 6 go_step
    have hb0 : Below w.heap.size w (w.alloc (.cells #[] 88)) := (Below.refl _ _).alloc (Nat.le_refl _) _
    refine wpList_append_rd rfl (.tmp 5) (.tmp 6) 105 88 _ 1 8 rfl Tryd.underlying105 info88t rfl (by omega) w.heap.size _ 0 [] rfl (World.ownsRow_lit w #[] 0 (Nat.le_refl _) (by unfold maxLen; omega) rfl) _ (some ad) n c xs rfl (HR.out.1.below hb0 (Nat.le_refl _)) HR.out.2 (by unfold maxLen; omega) (by omega) (by simp) ?_
    intro v1 w1 hown hb1
    have hb : Below w.heap.size w w1 := hb0.trans hb1
    rw [Nat.zero_add, List.nil_append] at hown
    have HH := Lib.hid (And.intro hb hown)
    obtain ⟨A', c', rfl, _, _⟩ := own_form hown
    clear hb hown hb0 hb1 heq
    go_simp
    go_wp2_with fail
    go_ret
    exact ⟨_, rfl, HH.out.2, HH.out.1⟩

/-- clear of one tree. -/
theorem run_clear_tree (w : World) (ty : TypeId) (b o c : Nat) (v : Value) (hc : w.cell? ⟨b, o, none⟩ = some v) (hf : w.frozen? ⟨b, o, none⟩ = false) :
    (Builtin.clear_ #[105] ty #[.slice (some ⟨b, o, none⟩) 1 c]).run Tryd.prog w = .ok (.tuple #[]) (w.setCell ⟨b, o, none⟩ (.pointer none)) := by
  have k1 : ∀ j, j < [Value.pointer none].length → (w.cell? ⟨b, o + 0 + j, none⟩).isSome = true := by
    intro j hj
    obtain rfl : j = 0 := by simpa using hj
    simp [hc]
  have k2 : ∀ j, j < [Value.pointer none].length → w.frozen? ⟨b, o + 0 + j, none⟩ = false := by
    intro j hj
    obtain rfl : j = 0 := by simpa using hj
    simpa using hf
  have hst := run_storeCells_cells (P := Tryd.prog) b o [.pointer none] 0 w k1 k2 (by intro u hu; simp at hu; subst hu; rfl)
  simp only [Nat.add_zero] at hst
  have hzc : (Builtin.zeroCells (Value.agg #[.pointer none]).cells 1) = #[.pointer none] := by
    apply Array.ext
    · simp [Builtin.zeroCells, Value.cells]
    · intro i h1 h2
      simp [Builtin.zeroCells, Value.cells, Nat.mod_one]
  simp [Builtin.clear_, run_underlying Tryd.underlying105, zero88t w, hzc, hst, World.setCells]
theorem wpList_clear_tree {ops : Array Oper} {rest : List Oper} {o : Oper} {a : Act} {w : World} {Q : Exit → Act → World → Prop} (hgd : o.guard = none) (s : Operand)
    (ho : o.op = .call { callee := .builtin .clear, args := #[s], argTypes := #[105] }) (b j c : Nat) (v : Value) (hs : a.eval s = .slice (some ⟨b, j, none⟩) 1 c) (hc : w.cell? ⟨b, j, none⟩ = some v) (hf : w.frozen? ⟨b, j, none⟩ = false)
    (h : wpList Tryd.prog ops Q rest (a.put o.dst (.tuple #[])) (w.setCell ⟨b, j, none⟩ (.pointer none))) : wpList Tryd.prog ops Q (o :: rest) a w := by
  have hrun := run_clear_tree w o.type b j c v hc hf
  refine wpList_plain hgd fun K hK => ?_
  unfold Oper.wp execOp
  simp only [ho, resolve, invoke, builtin, Sem.run_bind, Sem.run_pure, Result.andThen_ok, List.map_toArray, List.map_cons, List.map_nil, hs, hrun]
  exact hK _ _ h
theorem wpList_append_runT {ops : Array Oper} {rest : List Oper} {o : Oper} {a : Act} {w w' : World} {Q : Exit → Act → World → Prop} (hgd : o.guard = none) (s x : Operand)
    (ho : o.op = .call { callee := .builtin .append, args := #[s, x], argTypes := #[105, 105] }) (v y v' : Value) (hs : a.eval s = v) (hx : a.eval x = y)
    (hrun : (Builtin.append_ #[105, 105] o.type #[v, y]).run Tryd.prog w = .ok v' w') (h : wpList Tryd.prog ops Q rest (a.put o.dst v') w') : wpList Tryd.prog ops Q (o :: rest) a w := by
  refine wpList_plain hgd fun K hK => ?_
  unfold Oper.wp execOp
  simp only [ho, resolve, invoke, builtin, Sem.run_bind, Sem.run_pure, Result.andThen_ok, List.map_toArray, List.map_cons, List.map_nil, hs, hx, hrun]
  exact hK _ _ h
theorem own_part {w : World} {base e g n cap m : Nat} {xs : List Value} (h : w.ownsRow base e 1 (.slice (some ⟨g, 0, none⟩) n cap) n xs) (hm : m ≤ n) : w.ownsRow base e 1 (.slice (some ⟨g, 0, none⟩) m cap) m (xs.take m) := by
  have hl := h.1
  rcases h.2 with ⟨h0, _⟩ | ⟨g', cap', cur, hv, hb, hg, hnc, hcm, hcs, ht⟩
  · cases h0
  · cases hv
    refine ⟨by rw [List.length_take]; omega, .inr ⟨g, cap, cur, rfl, hb, hg, by omega, hcm, hcs, ?_⟩⟩
    rw [← ht, List.take_take]
    congr 1
    omega
theorem own_setbehind {w : World} {base e g n cap j : Nat} {xs : List Value} (v : Value) (h : w.ownsRow base e 1 (.slice (some ⟨g, 0, none⟩) n cap) n xs) (hj : n ≤ j) : (w.setCell ⟨g, j, none⟩ v).ownsRow base e 1 (.slice (some ⟨g, 0, none⟩) n cap) n xs := by
  have hl := h.1
  rcases h.2 with ⟨h0, _⟩ | ⟨g', cap', cur, hv, hb, hg, hnc, hcm, hcs, ht⟩
  · cases h0
  · cases hv
    refine ⟨hl, .inr ⟨g, cap, cur.setIfInBounds j v, rfl, hb, heap_setCell_same w g j cur e v hg, hnc, hcm, by simpa using hcs, ?_⟩⟩
    rw [← ht]
    apply List.ext_getElem?
    intro i
    rw [List.getElem?_take, List.getElem?_take]
    split
    · rw [Array.getElem?_toList, Array.getElem?_toList, Array.getElem?_setIfInBounds_ne (by omega)]
    · rfl
theorem own_cell {w : World} {base e g n cap j : Nat} {xs : List Value} (h : w.ownsRow base e 1 (.slice (some ⟨g, 0, none⟩) n cap) n xs) (hj : j < cap) : ∃ u, w.cell? ⟨g, j, none⟩ = some u ∧ w.frozen? ⟨g, j, none⟩ = false := by
  rcases h.2 with ⟨h0, _⟩ | ⟨g', cap', cur, hv, hb, hg, hnc, hcm, hcs, ht⟩
  · cases h0
  · cases hv
    exact ⟨cur[j]'(by omega), (cell_of_row w g j cur e (0, 0) hg).trans (Array.getElem?_eq_getElem _), by simp [World.frozen?, hg]⟩

/-- The first tree of a row goes. -/
def TDel (w : World) (base g n cap : Nat) (xs : List Value) (e : Ending) (w' : World) : Prop := e = .returned (.slice (some ⟨g, 0, none⟩) (n - 1) cap) ∧ w'.ownsRow base 88 1 (.slice (some ⟨g, 0, none⟩) (n - 1) cap) (n - 1) (xs.drop 1) ∧ w.grownBy w' (some g)
set_option maxRecDepth 100000 in
theorem delT_any (base g n cap : Nat) (xs : List Value) (w : World) (h : w.ownsRow base 88 1 (.slice (some ⟨g, 0, none⟩) n cap) n xs) (h1 : ∀ u ∈ xs, u.oneCell' = true) (hn : 1 ≤ n) (hn2 : n ≤ 1000) :
    Calls Tryd.prog 62 #[.slice (some ⟨g, 0, none⟩) n cap, .int .i64 0, .int .i64 1] w (TDel w base g n cap xs) := by
  have hl := h.1
  obtain ⟨hnc, hcm⟩ : n ≤ cap ∧ cap ≤ maxLen := by
    obtain ⟨_, c', e, h1, h2⟩ := own_form h
    cases e
    exact ⟨h1, h2⟩
  unfold maxLen at hcm
  obtain ⟨N, hN⟩ : ∃ N, N = n - 1 := ⟨_, rfl⟩
  obtain ⟨A1, hif1⟩ : ∃ A1 : Option Addr, (if cap = 1 then some (⟨g, 0, none⟩ : Addr) else some ⟨g, 1, none⟩) = A1 := ⟨_, rfl⟩
  have HI := Lib.hid (And.intro h (And.intro h1 (And.intro hN (And.intro hif1 hl))))
  clear h h1 hl
  go_enter Tryd.func62, Tryd.ntmps62
  go_upto_region 5 with (fail)
  have i1 : (1 : Int) ≤ (n : Int) := by omega
  go_still_tail 6, (by kernel_rfl)
  change wpList _ _ _ _ _ w.drew
  obtain ⟨hown, hone, hN', hA1, hxl⟩ := HI.out
  have hown' : w.drew.ownsRow base 88 1 (.slice (some ⟨g, 0, none⟩) n cap) n xs := hown
  obtain ⟨i, hi, hz, hsz, hby⟩ := info_of info88t
  obtain ⟨ad, hnews, rfl⟩ : ∃ ad : Addr, (∀ (j : Nat) u, (xs.drop 1)[j]? = some u → w.drew.cell? (ad.add j) = some u) ∧ A1 = some ad := by
    by_cases h1 : cap = 1
    · refine ⟨⟨g, 0, none⟩, fun j u hu => ?_, by rw [← hA1, if_pos h1]⟩
      have := (List.getElem?_eq_some_iff.1 hu).1
      rw [List.length_drop] at this
      omega
    · refine ⟨⟨g, 1, none⟩, fun j u hu => ?_, by rw [← hA1, if_neg h1]⟩
      have hlt := (List.getElem?_eq_some_iff.1 hu).1
      rw [List.length_drop] at hlt
      rw [List.getElem?_drop] at hu
      rw [Addr.add_mid, World.ownsRow.cellAt hown' (1 + j) (by omega), hu]
  obtain ⟨w2, hrun, hown2, hgr⟩ := run_append_fits (P := Tryd.prog) w.drew base 105 105 88 i 1 Tryd.underlying105 hi hsz g 0 cap _ (own_part hown' (Nat.zero_le _)) ad (n - 1) (cap - 1) (xs.drop 1) (by rw [List.length_drop]; omega) hnews
    (fun u hu => hone u (List.mem_of_mem_drop hu)) (by omega)
  rw [List.take_zero, List.nil_append, Nat.zero_add, ← hN] at hown2
  rw [Nat.zero_add, ← hN] at hrun
  rw [← hN]
  refine wpList_append_runT rfl (.tmp 22) (.tmp 25) rfl _ _ _ rfl rfl hrun ?_
  have hcell := own_cell hown2 (j := N) (by omega)
  have HO := Lib.hid (And.intro hown2 hgr)
  have i2 : (N : Int) ≤ (n : Int) := by omega
  have i3 : (n : Int) ≤ (cap : Int) := by omega
  have hif2 : (if cap = N then (some ⟨g, 0, none⟩ : Option Addr) else some ⟨g, N, none⟩) = some ⟨g, N, none⟩ := if_neg (by omega)
  have hsub : n - N = 1 := by omega
  have HNN := Lib.hid hN
  obtain ⟨u, hc, hf⟩ := hcell
  clear hrun hown2 hgr hown hone hN hN' hA1 hxl hown' hnews HI hi hz hsz hby hif1
  go_simp
  go_upto_region 6 with (fail)
  refine wp_region_lit ?_
  iterate 15 go_step
  refine wpList_clear_tree rfl (.tmp 31) rfl g N (cap - N) u rfl hc hf ?_
  have HO2 := Lib.hid (own_setbehind (.pointer none) HO.out.1 (Nat.le_refl _))
  have HS : Hid ((w2.setCell ⟨g, N, none⟩ (.pointer none)).heap.size = w2.heap.size) := Lib.hid (by simp)
  have HB : Hid (w.grownBy (w2.setCell ⟨g, N, none⟩ (.pointer none)) (some g)) := Lib.hid (by
    obtain ⟨a1, a2, a3, a4, a5⟩ := HO.out.2
    exact ⟨a1, a2, a3, by rw [HS.out]; exact a4, fun k hk hne => (Below.heap_setCell w2 ⟨g, N, none⟩ _ k (fun e => hne (by rw [e]))).trans (a5 k hk hne)⟩)
  clear hc hf HO
  generalize w2.setCell ⟨g, N, none⟩ (.pointer none) = w3 at *
  go_wp2_with fail
  go_ret
  unfold TDel
  rw [← HNN.out]
  exact ⟨rfl, HO2.out, HB.out⟩
end Go.Proofs.YtbhmldoehgkhfaaDoor
namespace Go.Proofs.YtbhmldoehgkhfaaDoor
open Go.RowKit
open Tr

def push (keep : Nat) (ts : List (Option T)) (o : Option T) : List (Option T) := if keep < ts.length + 1 then (ts ++ [o]).drop 1 else ts ++ [o]
theorem range_keep {w w' : World} {g o : Nat} {vs : List Value} (h : w.rangeAt g o vs) (hb : w'.heap[g]? = w.heap[g]?) : w'.rangeAt g o vs := fun j v hv => by
  rw [World.cell?_of_block (w := w) hb]; exact h j v hv
theorem rdv_one (w : World) (p : Option Nat) : RdV (w.alloc (.cells #[ptr p] 88)) (w.heap.size + 1) 1 (some ⟨w.heap.size, 0, none⟩) 1 [ptr p] :=
  ⟨rfl, fun _ => ⟨w.heap.size, 0, rfl, by omega, fun j u hu => (Whole.made w 88 #[ptr p]).at_ (by rw [Nat.zero_add]; simpa using hu)⟩⟩
theorem own_turn {w w' : World} {base e size n : Nat} {v : Value} {xs : List Value} (h : w.ownsRow base e size v n xs) (hb : Below w.heap.size w w') : w'.ownsRow base e size v n xs := by
  refine ⟨h.1, ?_⟩
  rcases h.2 with h0 | ⟨g, cap, cur, hv, hb1, hg, hr⟩
  · exact .inl h0
  · exact .inr ⟨g, cap, cur, hv, hb1, (hb.block g (Array.getElem?_eq_some_iff.1 hg).1).trans hg, hr⟩

theorem step_append_t {ops : Array Oper} {o : Oper} {a : Act} {w : World} {K : Act → World → Prop} {Q : Exit → Act → World → Prop} {F : Prop} (hgd : o.guard = none) (s x : Operand)
    (ho : o.op = .call { callee := .builtin .append, args := #[s, x], argTypes := #[105, 105] })
    (base : Nat) (v : Value) (n : Nat) (xs : List Value) (hs : a.eval s = v) (hown : w.ownsRow base 88 1 v n xs)
    (B : Nat) (A : Option Addr) (m c : Nat) (news : List Value) (hx : a.eval x = .slice A m c) (hr : RdV w B 1 A m news) (h1 : ∀ u ∈ news, u.oneCell' = true)
    (hb : n + m ≤ 1000000) (hbase : base ≤ w.heap.size)
    (h : ∀ v' w', w'.ownsRow base 88 1 v' (n + m) (xs ++ news) → w.grownBy w' v.ownBlock → K (a.put o.dst v') w') :
    if Region.wanted o (yielded ops a.tmps) = true then Oper.wp Tryd.prog o a w K Q else F := by
  have hw : Region.wanted o (yielded ops a.tmps) = true := by simp [Region.wanted, hgd]
  rw [if_pos hw]
  obtain ⟨v', w', hrun, h2, h3, h4⟩ := run_append_rd w base 105 o.type 88 _ 1 8 Tryd.underlying105 info88t rfl (by omega) v n _ hown B A m c _ hr h1 (by unfold maxLen; omega) (by omega) hbase
  unfold Oper.wp execOp
  simp only [ho, resolve, invoke, builtin, Sem.run_bind, Sem.run_pure, Result.andThen_ok, List.map_toArray, List.map_cons, List.map_nil, hs, hx, hrun]
  exact h v' w' h2 h3
theorem own_ps {w : World} {base n : Nat} {v : Value} {ps : List (Option Nat)} {p : Option Nat} (_ : w.ownsRow base 88 1 v n (ps.map ptr ++ [ptr p])) : ∀ u ∈ ps.map ptr ++ [ptr p], u.oneCell' = true := by
  intro u hu
  rw [← List.map_singleton, ← List.map_append] at hu
  exact one_ptrs _ u hu
theorem rdv_set {w : World} {B l i n : Nat} {A : Option Addr} {xs : List Value} (u : Value) (h : RdV w B 1 A n xs) (ho : 0 < n → ∀ b o, A = some ⟨b, o, none⟩ → b ≠ l) : RdV (w.setCell ⟨l, i, none⟩ u) B 1 A n xs :=
  ⟨h.1, fun hn => by
    obtain ⟨b, o, e, hb, hc⟩ := h.2 hn
    exact ⟨b, o, e, hb, fun j u hu => (World.cell?_of_block (w := w) (Below.heap_setCell w _ _ b (ho hn b o e))).trans (hc j u hu)⟩⟩

theorem own_base {w : World} {base base' e size n : Nat} {v : Value} {xs : List Value} (h : w.ownsRow base e size v n xs) (hb : base' ≤ base) : w.ownsRow base' e size v n xs := by
  refine ⟨h.1, ?_⟩
  rcases h.2 with h0 | ⟨g, cap, cur, hv, hb1, hr⟩
  · exact .inl h0
  · exact .inr ⟨g, cap, cur, hv, Nat.le_trans hb hb1, hr⟩

def CommitPost (G : Nat → Prop) (w : World) (l keep last : Nat) (ts : List (Option T)) (o : Option T) (e : Ending) (w' : World) : Prop :=
  e = .returned (.tuple #[.int .u64 (last + 1 : Nat), .int .i64 0]) ∧ LIn G w' l keep (last + 1) (push keep ts o) ∧ Turn l w w'

/-- The log's cells behind a store of its row and its number. -/
theorem commit_end {G : Nat → Prop} {w w5 : World} {l keep last n c : Nat} {ts : List (Option T)} {A : Option Addr} {ps : List (Option Nat)} (ht : Turn l w w5) (hl : l < w.heap.size) (hW : Whole w5 l 107 #[.int .i64 keep, .int .u64 (last + 1 : Nat), .slice A n c])
    (hnc : n ≤ c) (hr : RdV w5 w5.heap.size 1 A n (ps.map ptr)) (ho : 0 < n → ∀ b o, A = some ⟨b, o, none⟩ → G b) (hap : ∀ b, G b → b ≠ l) (hA : PAll G w w.heap.size ts ps) (k1 : 1 ≤ keep) (k2 : keep ≤ 64) (hf : ts.length ≤ keep) (hold : ts.length ≤ last + 1) :
    LIn G w5 l keep (last + 1) ts :=
  ⟨A, n, c, ps, Nat.lt_of_lt_of_le hl ht.size, hW, hnc, hr, ho, hap, hA.mono fun _ _ hp => hp.turn hap ht, k1, k2, hf, hold⟩

set_option maxRecDepth 100000 in
set_option maxHeartbeats 1000000 in
theorem commit_any {G : Nat → Prop} (w : World) (l keep last g : Nat) (ts : List (Option T)) (o : Option T) (h : LIn G w l keep last ts) (hG : Room G w) (hT : TIn G w w.heap.size o g) (hl : last ≤ 4611686018427387904) :
    Calls Tryd.prog 36 #[ptr (some l), ptr (some g)] w (CommitPost G w l keep last ts o) := by
  have HRM := Lib.hid hG
  clear hG
  obtain ⟨A, n, c, ps, h⟩ := h
  obtain ⟨hg, hgl, p, hWt, hP⟩ := hT
  have hlen := h.len
  have hnk : n ≤ 64 := by have := h.few; have := h.k64; omega
  have HL := Lib.hid h
  have HAP := Lib.hid h.apart
  have HP := Lib.hid hP
  have HPW := Lib.hid hWt
  have HG := Lib.hid (And.intro hg hgl)
  have HN := Lib.hid (And.intro hlen (show n ≤ 1000 by omega))
  have HLL := Lib.hid hl
  have hS0 : w.drew.cell? ⟨l, 2, none⟩ = some (.slice A n c) ∧ w.drew.rangeAt g 0 [ptr p] := ⟨h.whole.at_ (i := 2) rfl, hWt.range⟩
  have hl1 : l < w.drew.heap.size := h.lt
  have hg1 : g < w.drew.heap.size := hg
  have HR1 : Hid (RdV w.drew w.drew.heap.size 1 A n (ps.map ptr)) := Lib.hid h.row
  have HB1 : Hid (Below w.heap.size w w.drew) := Lib.hid (Below.refl _ _).drew
  clear h hP hWt hlen hgl hg hl
  rw [ptr_some, ptr_some]
  go_enter Tryd.func36, Tryd.ntmps36
  go_upto_region 3 with (fail)
  refine wp_region_held_drew (S := fun w' => w'.cell? ⟨l, 2, none⟩ = some (.slice A n c) ∧ w'.rangeAt g 0 [ptr p]) (by kernel_rfl) hS0 (fun hHeld => ?_)
  have hS1 := hS0
  clear hS0
  refine wpAnyH_take (i := 0) (oi := { dst := some 13, op := Op.move (Operand.tmp 0), type := 73, pos := "epoch.go:32", after := #[], guard := none }) (v := ?_) rfl (by kernel_rfl) (by kernel_rfl) (by kernel_rfl) (fun _ _ _ h => h) (Or.inl ⟨by rfl, ?_⟩) (by assumption) ?_
  rotate_left
  · first | (intro w hSw; (try dsimp only at hSw); go_simp; done) | (intro w hSw; (try dsimp only at hSw); go_simp; with_reducible rfl)
  simp only [Act.put, List.setIfInBounds_toArray, List.set_cons_zero, List.set_cons_succ]
  refine wpAnyH_take (i := 1) (oi := { dst := some 14, op := Op.nilCheck (Operand.tmp 13), type := 0, pos := "epoch.go:32", after := #[{ on := 0, ground := Ground.data }], guard := none }) (v := ?_) rfl (by kernel_rfl) (by kernel_rfl) (by kernel_rfl) (fun _ _ _ h => h) (Or.inl ⟨by rfl, ?_⟩) (by assumption) ?_
  rotate_left
  · first | (intro w hSw; (try dsimp only at hSw); go_simp; done) | (intro w hSw; (try dsimp only at hSw); go_simp; with_reducible rfl)
  simp only [Act.put, List.setIfInBounds_toArray, List.set_cons_zero, List.set_cons_succ]
  refine wpAnyH_take (i := 2) (oi := { dst := some 15, op := Op.fieldAddr 107 (Operand.tmp 14) 2, type := 0, pos := "epoch.go:32", after := #[{ on := 1, ground := Ground.data }], guard := none }) (v := ?_) rfl (by kernel_rfl) (by kernel_rfl) (by kernel_rfl) (fun _ _ _ h => h) (Or.inl ⟨by rfl, ?_⟩) (by assumption) ?_
  rotate_left
  · first | (intro w hSw; (try dsimp only at hSw); go_simp; done) | (intro w hSw; (try dsimp only at hSw); go_simp; with_reducible rfl)
  simp only [Act.put, List.setIfInBounds_toArray, List.set_cons_zero, List.set_cons_succ]
  refine wpAnyH_take (i := 3) (oi := { dst := some 16, op := Op.load 105 (Operand.tmp 15), type := 105, pos := "epoch.go:32", after := #[{ on := 2, ground := Ground.data }], guard := none }) (v := ?_) rfl (by kernel_rfl) (by kernel_rfl) (by kernel_rfl) (fun _ _ _ h => h) (Or.inl ⟨by rfl, ?_⟩) (by assumption) ?_
  rotate_left
  · first | (intro w hSw; (try dsimp only at hSw); go_simp; done) | (intro w hSw; (try dsimp only at hSw); go_simp; with_reducible rfl)
  simp only [Act.put, List.setIfInBounds_toArray, List.set_cons_zero, List.set_cons_succ]
  refine wpAnyH_take (i := 5) (oi := { dst := some 18, op := Op.move (Operand.tmp 1), type := 24, pos := "epoch.go:32", after := #[], guard := none }) (v := ?_) rfl (by kernel_rfl) (by kernel_rfl) (by kernel_rfl) (fun _ _ _ h => h) (Or.inl ⟨by rfl, ?_⟩) (by assumption) ?_
  rotate_left
  · first | (intro w hSw; (try dsimp only at hSw); go_simp; done) | (intro w hSw; (try dsimp only at hSw); go_simp; with_reducible rfl)
  simp only [Act.put, List.setIfInBounds_toArray, List.set_cons_zero, List.set_cons_succ]
  refine wpAnyH_take (i := 6) (oi := { dst := some 19, op := Op.nilCheck (Operand.tmp 18), type := 0, pos := "epoch.go:32", after := #[{ on := 5, ground := Ground.data }], guard := none }) (v := ?_) rfl (by kernel_rfl) (by kernel_rfl) (by kernel_rfl) (fun _ _ _ h => h) (Or.inl ⟨by rfl, ?_⟩) (by assumption) ?_
  rotate_left
  · first | (intro w hSw; (try dsimp only at hSw); go_simp; done) | (intro w hSw; (try dsimp only at hSw); go_simp; with_reducible rfl)
  simp only [Act.put, List.setIfInBounds_toArray, List.set_cons_zero, List.set_cons_succ]
  refine wpAnyH_take (i := 7) (oi := { dst := some 20, op := Op.load 88 (Operand.tmp 19), type := 88, pos := "epoch.go:32", after := #[{ on := 6, ground := Ground.data }], guard := none }) (v := .agg #[ptr p]) rfl (by kernel_rfl) (by kernel_rfl) (by kernel_rfl) (fun _ _ _ h => h) (yieldsIf_load_mid (by rfl) 88 (.tmp 19) rfl g 0 rfl [ptr p] _ (fun _ h => h.2) Tryd.underlying88 rfl (by exact info88s)) (by assumption) ?_
  simp only [Act.put, List.setIfInBounds_toArray, List.set_cons_zero, List.set_cons_succ]
  clear hHeld
  have hsw : w.drew.heap.size = w.heap.size := rfl
  generalize w.drew = wd at *
  refine wpAnyH_ready (rs := [4, 8]) (by kernel_rfl) (by simp) ?_
  refine AllReadyH.cons rfl (fun K hK => ?_) (AllReadyH.cons rfl (fun K hK => ?_) AllReadyH.nil)
  · go_simp
    refine (cloneT_any A n c (ps.map ptr) wd HR1.out (one_ptrs ps) HN.out.2).mono ?_
    rintro e w2 ⟨v, rfl, hown, hb2⟩
    have hS2 : w2.cell? ⟨l, 2, none⟩ = some (.slice A n c) ∧ w2.rangeAt g 0 [ptr p] := ⟨by rw [hb2.cell (p := ⟨l, 2, none⟩) hl1]; exact hS1.1, range_keep hS1.2 (hb2.block g hg1)⟩
    refine hK.out _ _ hS2 (fun _ => ?_)
    clear hK K hS1
    refine wpAnyH_ready (rs := [8]) (by kernel_rfl) (by simp) ?_
    refine AllReadyH.cons rfl (fun K hK => ?_) AllReadyH.nil
    go_simp
    have hb3 : Below w2.heap.size w2 (w2.alloc (.cells #[ptr p] 88)) := (Below.refl _ _).alloc (Nat.le_refl _) _
    have hown3 := own_turn hown hb3
    have hr3 := (rdv_one w2 p).more (show w2.heap.size + 1 ≤ (w2.alloc (.cells #[ptr p] 88)).heap.size by rw [size_alloc]; omega)
    have hB3 := HB1.out.trans ((hb2.mono (Nat.le_of_eq hsw.symm)).trans (hb3.mono (by rw [← hsw]; exact hb2.size)))
    have hS3 : (w2.alloc (.cells #[ptr p] 88)).cell? ⟨l, 2, none⟩ = some (.slice A n c) ∧ (w2.alloc (.cells #[ptr p] 88)).rangeAt g 0 [ptr p] :=
      ⟨by rw [hb3.cell (p := ⟨l, 2, none⟩) (Nat.lt_of_lt_of_le hl1 hb2.size)]; exact hS2.1, range_keep hS2.2 (hb3.block g (Nat.lt_of_lt_of_le hg1 hb2.size))⟩
    refine hK.out _ _ hS3 (fun _ => ?_)
    clear hK K hS2 hown hb2 hb3
    generalize w2.alloc (.cells #[ptr p] 88) = w3 at *
    generalize w2.heap.size = gl at *
    rw [hsw] at hown3
    refine wpAnyH_ready (rs := [9]) (by kernel_rfl) (by simp) ?_
    refine AllReadyH.cons rfl (fun K hK => ?_) AllReadyH.nil
    refine step_append_t rfl (.tmp 17) (.tmp 21) rfl w.heap.size v n _ rfl hown3 _ _ 1 1 [ptr p] rfl hr3 (one_ptrs [p]) (by omega) hB3.size ?_
    intro v4 w4 hown4 hgr4
    have hB4 := hB3.grown hgr4 hB3.size (fun k hk => (hown3.lt k hk).1)
    have hS4 : w4.cell? ⟨l, 2, none⟩ = some (.slice A n c) ∧ w4.rangeAt g 0 [ptr p] :=
      ⟨by rw [hB4.cell (p := ⟨l, 2, none⟩) (by show l < _; rw [← hsw]; exact hl1)]; exact HL.out.whole.at_ (i := 2) rfl, range_keep HPW.out.range (hB4.block g HG.out.1)⟩
    refine hK.out _ _ hS4 (fun hHeld => ?_)
    clear hK K hS3 hown3 hr3 hgr4 hB3
    refine wpAnyH_take (i := 10) (oi := { dst := some 6, op := Op.assign (Operand.tmp 22), type := 105, pos := "epoch.go:32", after := #[{ on := 9, ground := Ground.data }, { on := 9, ground := Ground.chain }, { on := 0, ground := Ground.phase }, { on := 1, ground := Ground.phase }, { on := 2, ground := Ground.phase }, { on := 3, ground := Ground.phase }, { on := 4, ground := Ground.phase }, { on := 5, ground := Ground.phase }, { on := 6, ground := Ground.phase }, { on := 7, ground := Ground.phase }, { on := 8, ground := Ground.phase }, { on := 9, ground := Ground.phase }], guard := none }) (v := ?_) rfl (by kernel_rfl) (by kernel_rfl) (by kernel_rfl) (fun _ _ _ h => h) (Or.inl ⟨by rfl, ?_⟩) (by assumption) ?_
    rotate_left
    · first | (intro w hSw; (try dsimp only at hSw); go_simp; done) | (intro w hSw; (try dsimp only at hSw); go_simp; with_reducible rfl)
    simp only [Act.put, List.setIfInBounds_toArray]
    refine wpAnyH_done (by kernel_rfl) ?_ _
    clear hS4 hHeld
    obtain ⟨M, hM⟩ : ∃ M, M = n + 1 := ⟨_, rfl⟩
    rw [← hM] at hown4
    obtain ⟨gr, cap, rfl, hgr0, hgrl⟩ := hown4.form (show 0 < M by omega)
    obtain ⟨L, hL⟩ : ∃ L, L = last + 1 := ⟨_, rfl⟩
    have hwr : IntKind.u64.wrap ((last : Int) + 1) = (L : Int) := by
      rw [show (last : Int) + 1 = (L : Int) by omega]
      exact IntWalk.u64_in _ ⟨by omega, by have := HLL.out; omega⟩
    have hw4 : Whole w4 l 107 #[.int .i64 keep, .int .u64 last, .slice A n c] := HL.out.whole.below hB4 HL.out.lt
    have c0 := hw4.at_ (i := 0) rfl
    have hps := own_ps hown4
    have HX := Lib.hid (And.intro hown4 (And.intro hB4 (And.intro hw4 (And.intro hM (And.intro hL (And.intro hgr0 hgrl))))))
    have hMk : M ≤ 1000 := by omega
    have hM1 : 1 ≤ M := by omega
    clear hown4 hB4 hw4 hM hL hgr0 hgrl
    by_cases hk : keep < M
    · go_wp2_with fail
      refine (delT_any w.heap.size gr M cap _ w4 HX.out.1 hps hM1 hMk).mono ?_
      rintro e w5 ⟨rfl, hown5, hgr5⟩
      have hB5 := HX.out.2.1.grown hgr5 HX.out.2.1.size (fun k hk => by cases hk; exact HX.out.2.2.2.2.2.1)
      have hw5 := HL.out.whole.below hB5 HL.out.lt
      have f2 := hw5.free 2
      have hrd := RdV.of_own hown5
      rw [← List.map_singleton, ← List.map_append, ← List.map_drop] at hrd
      have HY := Lib.hid (And.intro hrd (And.intro hB5 (And.intro hw5 (own_form hown5))))
      have c2 := hw5.at_ (i := 2) rfl
      clear hown5 hgr5 hB5 hw5 hrd
      obtain ⟨N, hN⟩ : ∃ N, M - 1 = N := ⟨_, rfl⟩
      rw [hN] at HY ⊢
      have HNN := Lib.hid hN
      clear hN c0 hps
      go_upto_region 7 with (fail)
      have hw6 := HY.out.2.2.1.set 2 (.slice (some ⟨gr, 0, none⟩) N cap)
      have hrd6 := rdv_set (l := l) (i := 2) (.slice (some ⟨gr, 0, none⟩) N cap) HY.out.1 (fun _ b o e => by cases e; have := HX.out.2.2.2.2.2.1; have := HL.out.lt; omega)
      have ht6 := (Turn.of_below HY.out.2.1).set (l := l) 2 (.slice (some ⟨gr, 0, none⟩) N cap)
      rw [show (w5.heap.size) = (w5.setCell ⟨l, 2, none⟩ (.slice (some ⟨gr, 0, none⟩) N cap)).heap.size by simp] at hrd6
      generalize w5.setCell ⟨l, 2, none⟩ (.slice (some ⟨gr, 0, none⟩) N cap) = w6 at *
      have c1 := hw6.at_ (i := 1) (v := .int .u64 last) rfl
      have f1 := hw6.free 1
      have HZ := Lib.hid (And.intro hw6 (And.intro hrd6 ht6))
      clear hw6 hrd6 ht6 c2 f2
      go_upto_region 8 with (fail)
      have hw7 := HZ.out.1.set 1 (.int .u64 L)
      have hrd7 := rdv_set (l := l) (i := 1) (.int .u64 L) HZ.out.2.1 (fun _ b o e => by cases e; have := HX.out.2.2.2.2.2.1; have := HL.out.lt; omega)
      have ht7 := HZ.out.2.2.set (l := l) 1 (.int .u64 L)
      rw [show (w6.heap.size) = (w6.setCell ⟨l, 1, none⟩ (.int .u64 L)).heap.size by simp] at hrd7
      generalize w6.setCell ⟨l, 1, none⟩ (.int .u64 L) = w7 at *
      have c1' := hw7.at_ (i := 1) (v := .int .u64 L) rfl
      have HV := Lib.hid (And.intro hw7 (And.intro hrd7 ht7))
      clear hw7 hrd7 ht7 c1 f1
      go_wp2_with fail
      go_ret2
      have hL := HX.out.2.2.2.2.1
      have hM := HX.out.2.2.2.1
      have hlen := HN.out.1
      refine ⟨?_, ?_, HV.out.2.2⟩
      · rw [← hL]; rfl
      rw [push, if_pos (by omega), ← hL]
      have hal := (HL.out.all.snoc HP.out).drop 1
      have hfew := HL.out.few
      have hold := HL.out.old
      rw [hL]
      refine commit_end HV.out.2.2 HL.out.lt (by rw [← hL]; exact HV.out.1) ?_ HV.out.2.1 (fun _ b o e => by cases e; exact HRM.out.2 _ HX.out.2.2.2.2.2.1) HAP.out hal HL.out.k1 HL.out.k64 ?_ ?_
      · obtain ⟨_, _, e, h1, _⟩ := HY.out.2.2.2
        cases e; exact h1
      · rw [List.length_drop, List.length_append]; simp; omega
      · rw [List.length_drop, List.length_append]; simp; omega
    · have HPS := Lib.hid hps
      have HX2 := Lib.hid (HX.out.2.2.1)
      have c2 := HX.out.2.2.1.at_ (i := 2) rfl
      have f2 := HX.out.2.2.1.free 2
      have hkk : ¬ (keep : Int) < (M : Int) := by omega
      have hrd := RdV.of_own HX.out.1
      rw [← List.map_singleton, ← List.map_append] at hrd
      have HRD := Lib.hid hrd
      have HF := Lib.hid (own_form HX.out.1)
      clear hps hrd
      go_upto_region 7 with (fail)
      have hw6 := HX.out.2.2.1.set 2 (.slice (some ⟨gr, 0, none⟩) M cap)
      have hrd6 := rdv_set (l := l) (i := 2) (.slice (some ⟨gr, 0, none⟩) M cap) HRD.out (fun _ b o e => by cases e; have := HX.out.2.2.2.2.2.1; have := HL.out.lt; omega)
      have ht6 := (Turn.of_below HX.out.2.1).set (l := l) 2 (.slice (some ⟨gr, 0, none⟩) M cap)
      rw [show (w4.heap.size) = (w4.setCell ⟨l, 2, none⟩ (.slice (some ⟨gr, 0, none⟩) M cap)).heap.size by simp] at hrd6
      generalize w4.setCell ⟨l, 2, none⟩ (.slice (some ⟨gr, 0, none⟩) M cap) = w6 at *
      have c1 := hw6.at_ (i := 1) (v := .int .u64 last) rfl
      have f1 := hw6.free 1
      have HZ := Lib.hid (And.intro hw6 (And.intro hrd6 ht6))
      clear hw6 hrd6 ht6 c2 f2 c0
      go_upto_region 8 with (fail)
      have hw7 := HZ.out.1.set 1 (.int .u64 L)
      have hrd7 := rdv_set (l := l) (i := 1) (.int .u64 L) HZ.out.2.1 (fun _ b o e => by cases e; have := HX.out.2.2.2.2.2.1; have := HL.out.lt; omega)
      have ht7 := HZ.out.2.2.set (l := l) 1 (.int .u64 L)
      rw [show (w6.heap.size) = (w6.setCell ⟨l, 1, none⟩ (.int .u64 L)).heap.size by simp] at hrd7
      generalize w6.setCell ⟨l, 1, none⟩ (.int .u64 L) = w7 at *
      have c1' := hw7.at_ (i := 1) (v := .int .u64 L) rfl
      have HV := Lib.hid (And.intro hw7 (And.intro hrd7 ht7))
      clear hw7 hrd7 ht7 c1 f1
      go_wp2_with fail
      go_ret2
      have hL := HX.out.2.2.2.2.1
      have hM := HX.out.2.2.2.1
      have hlen := HN.out.1
      refine ⟨?_, ?_, HV.out.2.2⟩
      · rw [← hL]; rfl
      rw [push, if_neg (by omega)]
      have hal := HL.out.all.snoc HP.out
      have hfew := HL.out.few
      have hold := HL.out.old
      refine commit_end HV.out.2.2 HL.out.lt (by rw [← hL]; exact HV.out.1) ?_ HV.out.2.1 (fun _ b o e => by cases e; exact HRM.out.2 _ HX.out.2.2.2.2.2.1) HAP.out hal HL.out.k1 HL.out.k64 ?_ ?_
      · obtain ⟨_, _, e, h1, _⟩ := HF.out
        cases e; exact h1
      · rw [List.length_append]; simp; omega
      · rw [List.length_append]; simp; omega
  · go_simp
    have hb2 : Below wd.heap.size wd (wd.alloc (.cells #[ptr p] 88)) := (Below.refl _ _).alloc (Nat.le_refl _) _
    have hr2 := (rdv_one wd p).more (show wd.heap.size + 1 ≤ (wd.alloc (.cells #[ptr p] 88)).heap.size by rw [size_alloc]; omega)
    have hS2 : (wd.alloc (.cells #[ptr p] 88)).cell? ⟨l, 2, none⟩ = some (.slice A n c) ∧ (wd.alloc (.cells #[ptr p] 88)).rangeAt g 0 [ptr p] := ⟨by rw [hb2.cell (p := ⟨l, 2, none⟩) hl1]; exact hS1.1, range_keep hS1.2 (hb2.block g hg1)⟩
    have hs2 : wd.heap.size ≤ (wd.alloc (.cells #[ptr p] 88)).heap.size := hb2.size
    have HC := Lib.hid (cloneT_any A n c (ps.map ptr) (wd.alloc (.cells #[ptr p] 88)) ((HR1.out.below hb2 (Nat.le_refl _)).more hb2.size) (one_ptrs ps) HN.out.2)
    have hBB := HB1.out.trans (hb2.mono (Nat.le_of_eq hsw.symm))
    refine hK.out _ _ hS2 (fun _ => ?_)
    clear hK K hS1 hb2
    generalize wd.alloc (.cells #[ptr p] 88) = w2 at *
    refine wpAnyH_ready (rs := [4]) (by kernel_rfl) (by simp) ?_
    refine AllReadyH.cons rfl (fun K hK => ?_) AllReadyH.nil
    go_simp
    refine HC.out.mono ?_
    rintro e w3 ⟨v, rfl, hown, hb3⟩
    have hr3 := (hr2.below hb3 (Nat.le_refl _)).more hb3.size
    have hown3 := own_base hown hs2
    have hB3 := hBB.trans (hb3.mono (by rw [← hsw]; exact hs2))
    have hS3 : w3.cell? ⟨l, 2, none⟩ = some (.slice A n c) ∧ w3.rangeAt g 0 [ptr p] :=
      ⟨by rw [hb3.cell (p := ⟨l, 2, none⟩) (Nat.lt_of_lt_of_le hl1 hs2)]; exact hS2.1, range_keep hS2.2 (hb3.block g (Nat.lt_of_lt_of_le hg1 hs2))⟩
    refine hK.out _ _ hS3 (fun _ => ?_)
    clear hK K hS2 hown hb3 hr2 HC hBB
    rw [hsw] at hr3
    rw [hsw] at hown3
    refine wpAnyH_ready (rs := [9]) (by kernel_rfl) (by simp) ?_
    refine AllReadyH.cons rfl (fun K hK => ?_) AllReadyH.nil
    refine step_append_t rfl (.tmp 17) (.tmp 21) rfl w.heap.size v n _ rfl hown3 _ _ 1 1 [ptr p] rfl hr3 (one_ptrs [p]) (by omega) hB3.size ?_
    intro v4 w4 hown4 hgr4
    have hB4 := hB3.grown hgr4 hB3.size (fun k hk => (hown3.lt k hk).1)
    have hS4 : w4.cell? ⟨l, 2, none⟩ = some (.slice A n c) ∧ w4.rangeAt g 0 [ptr p] :=
      ⟨by rw [hB4.cell (p := ⟨l, 2, none⟩) (by show l < _; rw [← hsw]; exact hl1)]; exact HL.out.whole.at_ (i := 2) rfl, range_keep HPW.out.range (hB4.block g HG.out.1)⟩
    refine hK.out _ _ hS4 (fun hHeld => ?_)
    clear hK K hS3 hown3 hr3 hgr4 hB3
    refine wpAnyH_take (i := 10) (oi := { dst := some 6, op := Op.assign (Operand.tmp 22), type := 105, pos := "epoch.go:32", after := #[{ on := 9, ground := Ground.data }, { on := 9, ground := Ground.chain }, { on := 0, ground := Ground.phase }, { on := 1, ground := Ground.phase }, { on := 2, ground := Ground.phase }, { on := 3, ground := Ground.phase }, { on := 4, ground := Ground.phase }, { on := 5, ground := Ground.phase }, { on := 6, ground := Ground.phase }, { on := 7, ground := Ground.phase }, { on := 8, ground := Ground.phase }, { on := 9, ground := Ground.phase }], guard := none }) (v := ?_) rfl (by kernel_rfl) (by kernel_rfl) (by kernel_rfl) (fun _ _ _ h => h) (Or.inl ⟨by rfl, ?_⟩) (by assumption) ?_
    rotate_left
    · first | (intro w hSw; (try dsimp only at hSw); go_simp; done) | (intro w hSw; (try dsimp only at hSw); go_simp; with_reducible rfl)
    simp only [Act.put, List.setIfInBounds_toArray]
    refine wpAnyH_done (by kernel_rfl) ?_ _
    clear hS4 hHeld
    obtain ⟨M, hM⟩ : ∃ M, M = n + 1 := ⟨_, rfl⟩
    rw [← hM] at hown4
    obtain ⟨gr, cap, rfl, hgr0, hgrl⟩ := hown4.form (show 0 < M by omega)
    obtain ⟨L, hL⟩ : ∃ L, L = last + 1 := ⟨_, rfl⟩
    have hwr : IntKind.u64.wrap ((last : Int) + 1) = (L : Int) := by
      rw [show (last : Int) + 1 = (L : Int) by omega]
      exact IntWalk.u64_in _ ⟨by omega, by have := HLL.out; omega⟩
    have hw4 : Whole w4 l 107 #[.int .i64 keep, .int .u64 last, .slice A n c] := HL.out.whole.below hB4 HL.out.lt
    have c0 := hw4.at_ (i := 0) rfl
    have hps := own_ps hown4
    have HX := Lib.hid (And.intro hown4 (And.intro hB4 (And.intro hw4 (And.intro hM (And.intro hL (And.intro hgr0 hgrl))))))
    have hMk : M ≤ 1000 := by omega
    have hM1 : 1 ≤ M := by omega
    clear hown4 hB4 hw4 hM hL hgr0 hgrl
    by_cases hk : keep < M
    · go_wp2_with fail
      refine (delT_any w.heap.size gr M cap _ w4 HX.out.1 hps hM1 hMk).mono ?_
      rintro e w5 ⟨rfl, hown5, hgr5⟩
      have hB5 := HX.out.2.1.grown hgr5 HX.out.2.1.size (fun k hk => by cases hk; exact HX.out.2.2.2.2.2.1)
      have hw5 := HL.out.whole.below hB5 HL.out.lt
      have f2 := hw5.free 2
      have hrd := RdV.of_own hown5
      rw [← List.map_singleton, ← List.map_append, ← List.map_drop] at hrd
      have HY := Lib.hid (And.intro hrd (And.intro hB5 (And.intro hw5 (own_form hown5))))
      have c2 := hw5.at_ (i := 2) rfl
      clear hown5 hgr5 hB5 hw5 hrd
      obtain ⟨N, hN⟩ : ∃ N, M - 1 = N := ⟨_, rfl⟩
      rw [hN] at HY ⊢
      have HNN := Lib.hid hN
      clear hN c0 hps
      go_upto_region 7 with (fail)
      have hw6 := HY.out.2.2.1.set 2 (.slice (some ⟨gr, 0, none⟩) N cap)
      have hrd6 := rdv_set (l := l) (i := 2) (.slice (some ⟨gr, 0, none⟩) N cap) HY.out.1 (fun _ b o e => by cases e; have := HX.out.2.2.2.2.2.1; have := HL.out.lt; omega)
      have ht6 := (Turn.of_below HY.out.2.1).set (l := l) 2 (.slice (some ⟨gr, 0, none⟩) N cap)
      rw [show (w5.heap.size) = (w5.setCell ⟨l, 2, none⟩ (.slice (some ⟨gr, 0, none⟩) N cap)).heap.size by simp] at hrd6
      generalize w5.setCell ⟨l, 2, none⟩ (.slice (some ⟨gr, 0, none⟩) N cap) = w6 at *
      have c1 := hw6.at_ (i := 1) (v := .int .u64 last) rfl
      have f1 := hw6.free 1
      have HZ := Lib.hid (And.intro hw6 (And.intro hrd6 ht6))
      clear hw6 hrd6 ht6 c2 f2
      go_upto_region 8 with (fail)
      have hw7 := HZ.out.1.set 1 (.int .u64 L)
      have hrd7 := rdv_set (l := l) (i := 1) (.int .u64 L) HZ.out.2.1 (fun _ b o e => by cases e; have := HX.out.2.2.2.2.2.1; have := HL.out.lt; omega)
      have ht7 := HZ.out.2.2.set (l := l) 1 (.int .u64 L)
      rw [show (w6.heap.size) = (w6.setCell ⟨l, 1, none⟩ (.int .u64 L)).heap.size by simp] at hrd7
      generalize w6.setCell ⟨l, 1, none⟩ (.int .u64 L) = w7 at *
      have c1' := hw7.at_ (i := 1) (v := .int .u64 L) rfl
      have HV := Lib.hid (And.intro hw7 (And.intro hrd7 ht7))
      clear hw7 hrd7 ht7 c1 f1
      go_wp2_with fail
      go_ret2
      have hL := HX.out.2.2.2.2.1
      have hM := HX.out.2.2.2.1
      have hlen := HN.out.1
      refine ⟨?_, ?_, HV.out.2.2⟩
      · rw [← hL]; rfl
      rw [push, if_pos (by omega), ← hL]
      have hal := (HL.out.all.snoc HP.out).drop 1
      have hfew := HL.out.few
      have hold := HL.out.old
      rw [hL]
      refine commit_end HV.out.2.2 HL.out.lt (by rw [← hL]; exact HV.out.1) ?_ HV.out.2.1 (fun _ b o e => by cases e; exact HRM.out.2 _ HX.out.2.2.2.2.2.1) HAP.out hal HL.out.k1 HL.out.k64 ?_ ?_
      · obtain ⟨_, _, e, h1, _⟩ := HY.out.2.2.2
        cases e; exact h1
      · rw [List.length_drop, List.length_append]; simp; omega
      · rw [List.length_drop, List.length_append]; simp; omega
    · have HPS := Lib.hid hps
      have HX2 := Lib.hid (HX.out.2.2.1)
      have c2 := HX.out.2.2.1.at_ (i := 2) rfl
      have f2 := HX.out.2.2.1.free 2
      have hkk : ¬ (keep : Int) < (M : Int) := by omega
      have hrd := RdV.of_own HX.out.1
      rw [← List.map_singleton, ← List.map_append] at hrd
      have HRD := Lib.hid hrd
      have HF := Lib.hid (own_form HX.out.1)
      clear hps hrd
      go_upto_region 7 with (fail)
      have hw6 := HX.out.2.2.1.set 2 (.slice (some ⟨gr, 0, none⟩) M cap)
      have hrd6 := rdv_set (l := l) (i := 2) (.slice (some ⟨gr, 0, none⟩) M cap) HRD.out (fun _ b o e => by cases e; have := HX.out.2.2.2.2.2.1; have := HL.out.lt; omega)
      have ht6 := (Turn.of_below HX.out.2.1).set (l := l) 2 (.slice (some ⟨gr, 0, none⟩) M cap)
      rw [show (w4.heap.size) = (w4.setCell ⟨l, 2, none⟩ (.slice (some ⟨gr, 0, none⟩) M cap)).heap.size by simp] at hrd6
      generalize w4.setCell ⟨l, 2, none⟩ (.slice (some ⟨gr, 0, none⟩) M cap) = w6 at *
      have c1 := hw6.at_ (i := 1) (v := .int .u64 last) rfl
      have f1 := hw6.free 1
      have HZ := Lib.hid (And.intro hw6 (And.intro hrd6 ht6))
      clear hw6 hrd6 ht6 c2 f2 c0
      go_upto_region 8 with (fail)
      have hw7 := HZ.out.1.set 1 (.int .u64 L)
      have hrd7 := rdv_set (l := l) (i := 1) (.int .u64 L) HZ.out.2.1 (fun _ b o e => by cases e; have := HX.out.2.2.2.2.2.1; have := HL.out.lt; omega)
      have ht7 := HZ.out.2.2.set (l := l) 1 (.int .u64 L)
      rw [show (w6.heap.size) = (w6.setCell ⟨l, 1, none⟩ (.int .u64 L)).heap.size by simp] at hrd7
      generalize w6.setCell ⟨l, 1, none⟩ (.int .u64 L) = w7 at *
      have c1' := hw7.at_ (i := 1) (v := .int .u64 L) rfl
      have HV := Lib.hid (And.intro hw7 (And.intro hrd7 ht7))
      clear hw7 hrd7 ht7 c1 f1
      go_wp2_with fail
      go_ret2
      have hL := HX.out.2.2.2.2.1
      have hM := HX.out.2.2.2.1
      have hlen := HN.out.1
      refine ⟨?_, ?_, HV.out.2.2⟩
      · rw [← hL]; rfl
      rw [push, if_neg (by omega)]
      have hal := HL.out.all.snoc HP.out
      have hfew := HL.out.few
      have hold := HL.out.old
      refine commit_end HV.out.2.2 HL.out.lt (by rw [← hL]; exact HV.out.1) ?_ HV.out.2.1 (fun _ b o e => by cases e; exact HRM.out.2 _ HX.out.2.2.2.2.2.1) HAP.out hal HL.out.k1 HL.out.k64 ?_ ?_
      · obtain ⟨_, _, e, h1, _⟩ := HF.out
        cases e; exact h1
      · rw [List.length_append]; simp; omega
      · rw [List.length_append]; simp; omega
end Go.Proofs.YtbhmldoehgkhfaaDoor
namespace Go.Proofs.YtbhmldoehgkhfaaDoor
open Go.RowKit
open Tr

def AtPost (G : Nat → Prop) (w : World) (last k : Nat) (ts : List (Option T)) (e : Ending) (w' : World) : Prop :=
  (¬ (last + 1 - ts.length ≤ k ∧ k ≤ last) ∧ e = .returned (.tuple #[.pointer none, .int .i64 11]) ∧ Below w.heap.size w w') ∨
  ∃ t g, last + 1 - ts.length ≤ k ∧ k ≤ last ∧ ts[k - (last + 1 - ts.length)]? = some t ∧ e = .returned (.tuple #[ptr (some g), .int .i64 0]) ∧ w.heap.size ≤ g ∧ TIn G w' w'.heap.size t g ∧ Below w.heap.size w w'

set_option maxRecDepth 100000 in
theorem at_any {G : Nat → Prop} (w : World) (l keep last k : Nat) (ts : List (Option T)) (h : LIn G w l keep last ts) (hl : last ≤ 4611686018427387904) (hk : k ≤ 18446744073709551615) (hG : Room G w) :
    Calls Tryd.prog 39 #[ptr (some l), .int .u64 k] w (AtPost G w last k ts) := by
  have HRM := Lib.hid hG
  clear hG
  obtain ⟨A, n, c, ps, h⟩ := h
  have hlen := h.len
  have hold := h.old
  have c1 := h.whole.at_ (i := 1) rfl
  have c2 := h.whole.at_ (i := 2) rfl
  obtain ⟨L, hL⟩ : ∃ L, L = last + 1 := ⟨_, rfl⟩
  obtain ⟨D, hD⟩ : ∃ D, D = L - n := ⟨_, rfl⟩
  have hq1 : IntKind.u64.wrap ((last : Int) + 1) = (L : Int) := by rw [show (last : Int) + 1 = (L : Int) by omega]; exact IntWalk.u64_in _ ⟨by omega, by omega⟩
  have hq2 : IntKind.u64.wrap (n : Int) = (n : Int) := IntWalk.u64_in _ ⟨by omega, by omega⟩
  have hq3 : IntKind.u64.wrap ((L : Int) - (n : Int)) = (D : Int) := by rw [show (L : Int) - (n : Int) = (D : Int) by omega]; exact IntWalk.u64_in _ ⟨by omega, by omega⟩
  have HL := Lib.hid h
  have HD := Lib.hid (And.intro hL (And.intro hD (And.intro hlen hold)))
  clear h hL hD hlen hold
  rw [ptr_some]
  go_enter Tryd.func39, Tryd.ntmps39
  go_upto_region 3 with (fail)
  go_quiet (fail)
  have d1 : (w.drewN nq).cell? ⟨l, 1, none⟩ = some (.int .u64 last) := c1
  have d2 : (w.drewN nq).cell? ⟨l, 2, none⟩ = some (.slice A n c) := c2
  have HB := Lib.hid (below_drewN (Below.refl w.heap.size w) nq)
  have HR : Hid (RdV (w.drewN nq) w.heap.size 1 A n (ps.map ptr)) := Lib.hid HL.out.row
  have HA : Hid (PAll G (w.drewN nq) w.heap.size ts ps) := Lib.hid (HL.out.all.mono fun _ _ hp => hp.below (below_drewN (Below.refl w.heap.size w) nq) (Nat.le_refl _))
  have hsz : (w.drewN nq).heap.size = w.heap.size := rfl
  clear c1 c2 hq1 hq2 hq3
  generalize w.drewN nq = w1 at *
  by_cases h1 : k < D
  · go_wp2_with fail
    go_ret2
    obtain ⟨a1, a2, a3, a4⟩ := HD.out
    exact .inl ⟨by omega, rfl, HB.out⟩
  by_cases h2 : last < k
  · go_wp2_with fail
    go_ret2
    obtain ⟨a1, a2, a3, a4⟩ := HD.out
    exact .inl ⟨by omega, rfl, HB.out⟩
  obtain ⟨i, hi⟩ : ∃ i, i = k - D := ⟨_, rfl⟩
  have hin : i < n := by
    obtain ⟨a1, a2, a3, a4⟩ := HD.out
    omega
  have hq4 : IntKind.u64.wrap ((k : Int) - (D : Int)) = (i : Int) := by rw [show (k : Int) - (D : Int) = (i : Int) by omega]; exact IntWalk.u64_in _ ⟨by omega, by omega⟩
  have HI := Lib.hid hi
  obtain ⟨b, o, rfl, hb, hcs⟩ := HR.out.2 (by omega)
  obtain ⟨p, hp⟩ : ∃ p, ps[i]? = some p := ⟨ps[i]'(by rw [HA.out.1, HD.out.2.2.1]; exact hin), List.getElem?_eq_getElem _⟩
  obtain ⟨t, ht⟩ : ∃ t, ts[i]? = some t := ⟨ts[i]'(by rw [HD.out.2.2.1]; exact hin), List.getElem?_eq_getElem _⟩
  have hP := HA.out.2 i t p ht hp
  have hcell := hcs i (ptr p) (by rw [List.getElem?_map, hp]; rfl)
  have hrange : w1.rangeAt b (o + i) [ptr p] := fun j v hv => by
    match j, hv with
    | 0, hv => simp at hv; subst hv; exact hcell
    | j + 1, hv => simp at hv
  have HX := Lib.hid (And.intro hrange (And.intro ht hP))
  have hz := zero88t
  have HSZ := Lib.hid hsz
  clear hi hcs hp hP hcell ht hrange hsz
  go_upto_region 6 with (fail)
  refine wp_region_lit ?_
  iterate 24 go_step
  refine wpList_load_mid rfl 88 (.tmp 40) rfl b (o + i) rfl [ptr p] _ HX.out.1 Tryd.underlying88 rfl (by exact info88s) ?_
  iterate 3 go_step
  have hw3 := Whole.made w1 88 #[.pointer none]
  refine wpList_store_mid rfl 88 (.tmp 7) (.tmp 41) rfl w1.heap.size 0 #[ptr p] rfl rfl ?_ ?_ (all_oneCell_toArray (one_ptrs [p])) ?_
  · exact hw3.there_
  · exact info88s
  have hw4 := hw3.setAll (vs := #[ptr p]) rfl
  have hb4 : Below w1.heap.size w1 ((w1.alloc (.cells #[.pointer none] 88)).setCells w1.heap.size 0 #[ptr p].toList) := below_setCells w1 w1.heap.size _ 0 ((Below.refl _ _).alloc (Nat.le_refl _) _) (Nat.le_refl _)
  generalize (w1.alloc (.cells #[.pointer none] 88)).setCells w1.heap.size 0 #[ptr p].toList = w4 at *
  have HW := Lib.hid (And.intro hw4 hb4)
  clear hw3 hw4 hb4 hz
  go_wp2_with fail
  go_ret2
  obtain ⟨a1, a2, a3, a4⟩ := HD.out
  obtain ⟨hw4, hb4⟩ := HW.out
  have hll := HL.out.lt
  have hi := HI.out
  have hsz := HSZ.out
  refine .inr ⟨t, w1.heap.size, by omega, by omega, ?_, rfl, Nat.le_of_eq hsz.symm, ⟨hw4.lt, HRM.out.2 _ (Nat.le_of_eq hsz.symm), p, hw4, ?_⟩, HB.out.trans (hb4.mono (Nat.le_of_eq hsz.symm))⟩
  · rw [← HX.out.2.1, hi, a2, a1, a3]
  · exact (HX.out.2.2.below hb4 (Nat.le_of_eq hsz.symm)).more (by rw [← hsz]; exact hb4.size)
end Go.Proofs.YtbhmldoehgkhfaaDoor
namespace Go.Proofs.YtbhmldoehgkhfaaDoor
open Go.RowKit
open Tr
variable {G : Nat → Prop}

theorem upmost_at (o : Option T) (a oo : Nat) (q : Option Nat) (B : Nat) (w : World) (hc : w.cell? ⟨a, oo, none⟩ = some (ptr q)) (hP : PIn G w B o q) : Calls Tryd.prog 44 #[.pointer (some ⟨a, oo, none⟩)] w (UpPost G w B o) := by
  have HP := Lib.hid hP
  clear hP
  unfold ptr at hc
  generalize hX : (q.map fun b => (⟨b, 0, none⟩ : Addr)) = X at *
  have HX := Lib.hid hX
  clear hX
  go_enter Tryd.func44, Tryd.ntmps44
  go_wp2_with fail
  go_ret
  exact ⟨q, by unfold ptr; rw [HX.out]; rfl, HP.out, rfl⟩
set_option maxRecDepth 100000 in
theorem root_at (q : Option T) (a : Nat) (oo : Nat) (p : Option Nat) (w : World) (hc : w.cell? ⟨a, oo, none⟩ = some (ptr p)) (ha : a < w.heap.size) (hP : PIn G w w.heap.size q p) (ht : Sh.Tab w 1) (hw : 1 < w.heap.size) :
    Calls Tryd.prog 23 #[.pointer (some ⟨a, oo, none⟩)] w fun e w' => e = .returned (.agg (Sh.bcells (osum q))) ∧ Below w.heap.size w w' := by
  have hz49 := zero49
  have hb1 : Below w.heap.size w (w.alloc (.cells (zb 32) 49)) := (Below.refl _ _).alloc (Nat.le_refl _) _
  have hs1 : (w.alloc (.cells (zb 32) 49)).heap.size = w.heap.size + 1 := size_alloc _ _
  have HU := Lib.hid (upmost_at (G := G) q a oo p _ (w.alloc (.cells (zb 32) 49)) ((hb1.cell (p := ⟨a, oo, none⟩) ha).trans hc) (hP.below hb1 (Nat.le_refl _)))
  have HW := Lib.hid (Whole.made w 49 (zb 32))
  have HE := Lib.hid (empty_any (w.alloc (.cells (zb 32) 49)) (Sh.tab_below ht hb1 hw) (by omega))
  have HB1 := Lib.hid hb1
  clear hc hP ht hb1
  go_enter Tryd.func23, Tryd.ntmps23
  go_wp2_with fail
  refine HU.out.mono ?_
  rintro e w1 ⟨p1, rfl, hP, rfl⟩
  generalize w.alloc (.cells (zb 32) 49) = w1 at *
  clear hz49 HU
  cases q with
  | none =>
    obtain rfl := hP
    rw [ptr_none]
    go_wp2_with fail
    refine HE.out.mono ?_
    rintro e w2 ⟨rfl, hb2⟩
    have HW2 := Lib.hid (HW.out.below hb2 (by omega))
    have HB2 := Lib.hid (HB1.out.trans (hb2.mono (by omega)))
    clear hb2 HE HW HB1
    obtain ⟨Y, hY⟩ : ∃ Y, Sh.bcells (Sh.Sha.sum []) = Y := ⟨_, rfl⟩
    have hsizeY : Y.size = 32 := by rw [← hY, Sh.bcells_size, Sh.sum_length]
    have honeY : Y.all (·.oneCell') = true := by rw [← hY]; exact Sh.bcells_one _
    rw [hY]
    have HY := Lib.hid hY
    clear hY
    simp only []
    go_step
    refine wpList_store_mid rfl 49 (.tmp 2) (.tmp 12) rfl w.heap.size 0 Y rfl rfl ?_ ?_ honeY ?_
    · rw [hsizeY]; have := HW2.out.there_; rw [zb_size] at this; exact this
    · rw [hsizeY]; exact info49
    have HW8 := Lib.hid (HW2.out.setAll (vs := Y) (by rw [zb_size, hsizeY]))
    have HB8 := Lib.hid (below_setCells w w.heap.size Y.toList 0 HB2.out (by omega))
    generalize w2.setCells w.heap.size 0 Y.toList = w8 at *
    go_wp2_with fail
    refine bodyPost_ret (results_cell1 Tryd.results23 _ _ _ ⟨w.heap.size, 0, none⟩ _ rfl (load_whole HW8.out 49 _ Tryd.underlying49 rfl (by rw [hsizeY]; exact info49))) rfl ⟨by rw [show osum none = Sh.Sha.sum [] from rfl, HY.out], HB8.out⟩
  | some t =>
    obtain ⟨b, rfl, hN⟩ := hP
    obtain ⟨A, n, c, A', n', c', x, y, hh⟩ := hN.has
    have hbl := hh.lt
    have HR := Lib.hid (ncells_srange hh.whole (lsum32 t) (rsum32 t))
    obtain ⟨Y, hY⟩ : ∃ Y, t.sum.map V8 = Y := ⟨_, rfl⟩
    have hsizeY : Y.toArray.size = 32 := by rw [← hY]; exact sumsize t
    have honeY : Y.toArray.all (·.oneCell') = true := by rw [← hY]; exact one49 _
    rw [hY] at HR
    have HY : Hid (Sh.bcells (osum (some t)) = Y.toArray) := Lib.hid (by rw [← hY]; rfl)
    rw [ptr_some]
    clear HE hh hN hY
    go_upto_region 3 with (fail)
    refine wp_region_lit ?_
    iterate 9 go_step
    refine wpList_load_mid rfl 49 (.tmp 10) rfl b 68 rfl _ _ HR.out Tryd.underlying49 rfl (by rw [← List.size_toArray, hsizeY]; exact info49) ?_
    refine wpList_store_mid rfl 49 (.tmp 2) (.tmp 11) rfl w.heap.size 0 Y.toArray rfl rfl ?_ ?_ honeY ?_
    · rw [hsizeY]; have := HW.out.there_; rw [zb_size] at this; exact this
    · rw [hsizeY]; exact info49
    have HW8 := Lib.hid (HW.out.setAll (vs := Y.toArray) (by rw [zb_size, hsizeY]))
    have HB8 := Lib.hid (below_setCells w w.heap.size Y 0 HB1.out (by omega))
    show wpList _ _ _ _ _ (w1.setCells w.heap.size 0 Y)
    change Hid (Whole (w1.setCells w.heap.size 0 Y) _ _ _) at HW8
    generalize w1.setCells w.heap.size 0 Y = w8 at *
    go_wp2_with fail
    refine bodyPost_ret (results_cell1 Tryd.results23 _ _ _ ⟨w.heap.size, 0, none⟩ _ rfl (load_whole HW8.out 49 _ Tryd.underlying49 rfl (by rw [hsizeY]; exact info49))) rfl ⟨by rw [HY.out], HB8.out⟩
end Go.Proofs.YtbhmldoehgkhfaaDoor
namespace Go.Proofs.YtbhmldoehgkhfaaDoor
open Go.RowKit
open Tr

theorem info49f : (Tryd.prog.info? 49).map (fun i => (i.zero, i.size, i.bytes)) = some (some (.agg (zb 32)), 32, 32) := by kernel_rfl
theorem zb_at (n i : Nat) (h : i < n) : (zb n)[i]? = some (.int .u8 0) := by
  simp [zb, h, V8]
theorem made49 (n : Nat) : madeCells (Value.agg (zb 32)).cells (n * 32) = zb (n * 32) := by
  apply Array.ext
  · simp [size_madeCells, zb_size]
  · intro i h1 h2
    have h3 : i < n * 32 := by rw [zb_size] at h2; exact h2
    have h4 := zb_at 32 (i % 32) (by omega)
    have h5 := zb_at (n * 32) i h3
    rw [Array.getElem?_eq_getElem h2] at h5
    injection h5 with h5
    rw [h5]
    simp only [madeCells, Value.cells, zb_size, Array.getElem_map, Array.getElem_range]
    rw [getElem!_def, h4]
theorem run_mk49 (n : Nat) (hn : n ≤ 1000) (w : World) :
    (Instr.makeSlice 76 (.int .i64 n) (.int .i64 n)).run Tryd.prog w = .ok (.slice (some ⟨w.heap.size, 0, none⟩) n n) (w.alloc (.cells (zb (n * 32)) 49)) := by
  obtain ⟨i, hi, hz, hs, hby⟩ := info_of info49f
  have := run_make (P := Tryd.prog) w 76 49 i _ Tryd.underlying76 hi hz .i64 .i64 (n : Int) (n : Int) (by omega) (by omega) (by rw [hby]; omega) (by omega)
  rw [hs] at this
  simp only [Int.toNat_natCast] at this
  rw [made49] at this
  exact this

/-- The sums of trees, one behind the other. -/
def sums (ts : List (Option T)) : List UInt8 := (ts.map osum).flatten
theorem sums_len (ts : List (Option T)) : (sums ts).length = ts.length * 32 := by
  induction ts with
  | nil => rfl
  | cons t r ih =>
    have : sums (t :: r) = osum t ++ sums r := by simp [sums]
    rw [this, List.length_append, ih, osum32, List.length_cons]
    omega
theorem sums_snoc (ts : List (Option T)) (t : Option T) : sums (ts ++ [t]) = sums ts ++ osum t := by simp [sums]
theorem rep_split (m : Nat) (h : 0 < m) : (List.replicate (m * 32) (0 : UInt8)).map V8 = (List.replicate 32 (0 : UInt8)).map V8 ++ (List.replicate ((m - 1) * 32) (0 : UInt8)).map V8 := by
  rw [← List.map_append, List.replicate_append_replicate]
  congr 2
  omega

def RootsPost (w : World) (ts : List (Option T)) (e : Ending) (w' : World) : Prop :=
  ∃ g, e = .returned (.slice (some ⟨g, 0, none⟩) ts.length ts.length) ∧ w.heap.size ≤ g ∧ Whole w' g 49 ((sums ts).map V8).toArray ∧ Below w.heap.size w w'

set_option maxRecDepth 100000 in
set_option maxHeartbeats 1000000 in
theorem roots_any {G : Nat → Prop} (w : World) (l keep last : Nat) (ts : List (Option T)) (h : LIn G w l keep last ts) (ht : Sh.Tab w 1) (hw : 1 < w.heap.size) :
    Calls Tryd.prog 38 #[ptr (some l)] w (RootsPost w ts) := by
  obtain ⟨A, n, c, ps, h⟩ := h
  have hlen := h.len
  have hnk : n ≤ 64 := by have := h.few; have := h.k64; omega
  have c2 := h.whole.at_ (i := 2) rfl
  have hmk := run_mk49 n (by omega) w
  have HL := Lib.hid h
  have HLEN := Lib.hid hlen
  have HT := Lib.hid ht
  clear h hlen ht
  rw [ptr_some]
  go_enter Tryd.func38, Tryd.ntmps38
  go_upto_region 4 with (fail)
  have hw1 := Whole.made w 49 (zb (n * 32))
  have hb1 : Below w.heap.size w (w.alloc (.cells (zb (n * 32)) 49)) := (Below.refl _ _).alloc (Nat.le_refl _) _
  generalize w.alloc (.cells (zb (n * 32)) 49) = w1 at *
  have HX := Lib.hid (And.intro hw1 hb1)
  obtain ⟨gr, hgr⟩ : ∃ gr, w.heap.size = gr := ⟨_, rfl⟩
  rw [hgr] at HX ⊢
  have HGR := Lib.hid hgr
  clear hw1 hb1 hmk c2 hgr
  go_wp2_with fail
  go_loopg [15] n (fun gk s15 wx => ∃ i, i + gk = n ∧ s15 = .int .i64 (i : Nat) ∧ Whole wx gr 49 ((sums (ts.take i)).map V8 ++ (List.replicate (gk * 32) (0 : UInt8)).map V8).toArray ∧ Below gr w wx)
  case atStart =>
    refine ⟨0, by omega, rfl, ?_, HX.out.2⟩
    exact HX.out.1
  case round =>
    clear HX
    obtain ⟨i, hi, rfl, hW, hb⟩ := hrel
    cases gk with
    | zero =>
      obtain rfl : i = n := by omega
      have HF := Lib.hid (And.intro hW hb)
      clear hi hW hb
      go_wp2_with fail
      go_ret
      refine ⟨gr, by rw [HLEN.out]; rfl, Nat.le_of_eq HGR.out, ?_, by rw [HGR.out]; exact HF.out.2⟩
      have hF := HF.out.1
      rw [List.take_of_length_le (by rw [HLEN.out]; omega), Nat.zero_mul, List.replicate_zero, List.map_nil, List.append_nil] at hF
      exact hF
    | succ gn =>
      have hin : i < n := by omega
      have hb' : Below w.heap.size w wr := by rw [HGR.out]; exact hb
      obtain ⟨b, o, rfl, hbb, hcs⟩ := HL.out.row.2 (by omega)
      obtain ⟨p, hp⟩ : ∃ p, ps[i]? = some p := ⟨ps[i]'(by rw [HL.out.all.1, HLEN.out]; exact hin), List.getElem?_eq_getElem _⟩
      obtain ⟨t, ht⟩ : ∃ t, ts[i]? = some t := ⟨ts[i]'(by rw [HLEN.out]; exact hin), List.getElem?_eq_getElem _⟩
      have hP := ((HL.out.all.2 i t p ht hp).below hb' (Nat.le_refl _)).more hb'.size
      have hcell := (hb'.cell (p := ⟨b, o + i, none⟩) hbb).trans (hcs i (ptr p) (by rw [List.getElem?_map, hp]; rfl))
      have c2 := (HL.out.whole.below hb' HL.out.lt).at_ (i := 2) rfl
      have HR := Lib.hid (root_at t b (o + i) p wr hcell (Nat.lt_of_lt_of_le hbb hb'.size) hP (Sh.tab_below HT.out hb' hw) (Nat.lt_of_lt_of_le hw hb'.size))
      have HW := Lib.hid (And.intro hW (And.intro hb (And.intro ht hi)))
      clear hb' hcs hp hP hcell hW hb ht
      go_wp2_with fail
      refine HR.out.mono ?_
      rintro e w2 ⟨rfl, hb2⟩
      have hg2 := HW.out.1.lt
      have hW2 := HW.out.1.below hb2 hg2
      have hbb2 := HW.out.2.1.trans (hb2.mono (Nat.le_of_lt hg2))
      obtain ⟨Y, hY⟩ : ∃ Y, Sh.bcells (osum t) = Y := ⟨_, rfl⟩
      have hYs : Y.size = 32 := by rw [← hY, Sh.bcells_size, osum32]
      have honeY : Y.all (·.oneCell') = true := by rw [← hY]; exact Sh.bcells_one _
      have hYl : Y.toList = (osum t).map V8 := by rw [← hY]; rfl
      rw [hY]
      have HW2 := Lib.hid (And.intro hW2 (And.intro hbb2 hYl))
      clear hY HR hb2 hg2 hW2 hbb2 c2
      simp only []
      iterate 4 go_step
      obtain ⟨hW2, hbb2, hYl⟩ := HW2.out
      obtain ⟨_, _, ht, hi⟩ := HW.out
      rw [rep_split (gn + 1) (by omega)] at hW2
      have hpl : ((sums (ts.take i)).map V8).length = i * 32 := by rw [List.length_map, sums_len, List.length_take, HLEN.out, Nat.min_eq_left (by omega)]
      refine wpList_store_mid rfl 49 (.tmp 27) (.tmp 26) rfl gr (i * 32) Y rfl rfl ?_ ?_ honeY ?_
      · rw [hYs]
        refine hW2.midthere (i * 32) 32 ?_
        simp only [List.size_toArray, List.length_append, hpl, List.length_map, List.length_replicate]
        omega
      · rw [hYs]; exact info49
      have hW3 := Whole.setCells Y.toList ((sums (ts.take i)).map V8) ((List.replicate 32 (0 : UInt8)).map V8) ((List.replicate ((gn + 1 - 1) * 32) (0 : UInt8)).map V8) hW2 (by rw [hYl]; simp [osum32])
      have hb3 := below_setCells w gr Y.toList (i * 32) hbb2 (Nat.le_refl _)
      rw [hpl] at hW3
      have HF := Lib.hid (And.intro hW3 (And.intro hb3 (And.intro hYl (And.intro ht hi))))
      clear hW2 hbb2 hYl ht hi hpl hW3 hb3 HW HW2
      generalize w2.setCells gr (i * 32) Y.toList = w3 at *
      go_wp2_with fail
      go_roundg gn
      case measure => omega
      case rel =>
        obtain ⟨hW3, hb3, hYl, ht, hi⟩ := HF.out
        refine ⟨i + 1, by omega, rfl, ?_, hb3⟩
        rw [List.take_add_one, ht]
        show Whole w3 gr 49 ((sums (ts.take i ++ [t])).map V8 ++ _).toArray
        rw [sums_snoc, List.map_append, List.append_assoc, ← hYl]
        exact hW3
end Go.Proofs.YtbhmldoehgkhfaaDoor
namespace Go.Proofs.YtbhmldoehgkhfaaDoor
open Go.RowKit
open Tr

def psh : Nat → List (Option T)
  | 0 => []
  | i + 1 => push 2 (psh i) none
theorem psh3 : psh 3 = [none, none] := by rfl

set_option maxRecDepth 100000 in
set_option maxHeartbeats 1000000 in
theorem awake6_any (w : World) (ht : Sh.Tab w 1) (hw : 1 < w.heap.size) : Calls Tryd.prog 34 #[] w fun e w' => e = .returned (.bool true) ∧ Below w.heap.size w w' := by
  have HT := Lib.hid ht
  clear ht
  go_enter Tryd.func34, Tryd.ntmps34
  go_wp2_with fail
  refine (lnew_ok 2 (by omega) (by omega) w).mono ?_
  rintro e w1 ⟨l, rfl, hl, hL, hb1⟩
  rw [ptr_some]
  have HL1 := Lib.hid hL
  have HB1 := Lib.hid hb1
  have HLL := Lib.hid hl
  clear hL hb1 hl
  go_wp2_with fail
  go_loopg [9] 3 (fun gk s9 wx => ∃ i, i + gk = 3 ∧ s9 = .int .i64 (i : Nat) ∧ LIn (Out l) wx l 2 i (psh i) ∧ Below w.heap.size w wx)
  case atStart => exact ⟨0, by omega, rfl, HL1.out, HB1.out⟩
  case round =>
    clear HL1 HB1
    obtain ⟨i, hi, rfl, hL, hb⟩ := hrel
    have hsw := hb.size
    cases gk with
    | succ gn =>
      have HN := Lib.hid (new_any (G := Out l) wr (room_out hL.lt (by omega)))
      have HLi := Lib.hid hL
      have HBi := Lib.hid hb
      clear hL hb
      have hi3 : i < 3 := by omega
      go_wp2_with fail
      refine HN.out.mono ?_
      rintro e w2 ⟨g, rfl, hg, hT, hb2⟩
      have HC := Lib.hid (commit_any (G := Out l) w2 l 2 i g (psh i) none (HLi.out.on hb2) (room_out (HLi.out.on hb2).lt (by have := hb2.size; omega)) hT (by omega))
      have HB2 := Lib.hid (HBi.out.trans (hb2.mono hsw))
      have hs2 := hb2.size
      clear hT hb2 HN hg
      rw [ptr_some] at HC ⊢
      rw [ptr_some] at HC
      go_wp2_with fail
      refine HC.out.mono ?_
      rintro e w3 ⟨rfl, hL3, ht3⟩
      have HL3 := Lib.hid hL3
      have HB3 := Lib.hid (HB2.out.trans (ht3.below HLL.out (by omega)))
      clear hL3 ht3 HC
      go_wp2_with fail
      go_roundg gn
      case measure => omega
      case rel => exact ⟨i + 1, by omega, congrArg (Value.int .i64) (by omega), HL3.out, HB3.out⟩
    | zero =>
      obtain rfl : i = 3 := by omega
      have HA := Lib.hid (at_any (G := Out l) wr l 2 3 1 (psh 3) hL (by omega) (by omega) (room_out hL.lt (by omega)))
      rw [ptr_some] at HA
      have HLi := Lib.hid hL
      have HBi := Lib.hid hb
      clear hL hb hi
      go_wp2_with fail
      refine HA.out.mono ?_
      rintro e w2 hpost
      rcases hpost with ⟨_, rfl, hb2⟩ | ⟨t, g, h1, _⟩
      rotate_left
      · rw [psh3] at h1; exact absurd h1 (by decide)
      have HL2 := Lib.hid (HLi.out.on hb2)
      have HB2 := Lib.hid (HBi.out.trans (hb2.mono hsw))
      have hs2 := hb2.size
      have HLast := Lib.hid (last_any w2 l 2 3 (psh 3) HL2.out)
      have HRoots := Lib.hid (roots_any w2 l 2 3 (psh 3) HL2.out (Sh.tab_below HT.out HB2.out hw) (by omega))
      rw [ptr_some] at HLast HRoots
      clear hb2 HA
      go_wp2_with fail
      refine HLast.out.mono ?_
      rintro e w3 ⟨rfl, rfl⟩
      go_wp2_with fail
      refine HRoots.out.mono ?_
      rintro e w3 ⟨g, rfl, hg, hW, hb3⟩
      rw [psh3]
      have HB3 := Lib.hid (HB2.out.trans (hb3.mono (by omega)))
      clear hb3 hW hg
      go_wp2_with fail
      go_ret
      exact ⟨rfl, HB3.out⟩
end Go.Proofs.YtbhmldoehgkhfaaDoor
