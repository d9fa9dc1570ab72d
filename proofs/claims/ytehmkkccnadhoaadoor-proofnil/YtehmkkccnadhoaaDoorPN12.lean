/-
  slices.Backward over no error, and over one.
  The gate and inner, of any error that the laws make.
  alone, and the questions that Code asks of each layer by itself.
  The loop of layers: each layer is handed on, the outermost first.
-/
import Derived.RangeFuncLeaves
import Derived.Shelf.Abstract
import Derived.WalkKit
import Derived.OwnWalkIn
import Derived.TacticsInMore
import Derived.LoopNIn
import Derived.LoopIn
import Derived.Test.YtehmkkccnadhoaaDoorPN09
import Derived.Test.YtehmkkccnadhoaaDoorPN10
import Derived.Test.YtehmkkccnadhoaaDoorPN11
namespace Go.Proofs.YtehmkkccnadhoaaDoor.Fl
open Go.RowKit Go.Shelf
attribute [local go_sem] Oper.semAt_some

set_option maxRecDepth 100000 in
theorem back_nil (B m l Bs : Nat) (v : Value) (O1 : Blocks) (W1 : World) (hs : W1.cell? ⟨Bs, 0, none⟩ = some (.slice none 0 0)) :
    Iter (α := Unit) B m Tryd.prog 66 #[.pointer (some ⟨Bs, 0, none⟩)] (fun _ => #[.int .i64 0, v]) (fun _ => False) (· = []) O1 l W1 := by
  intro J Jx _ _ hO _ hJ
  show CallsIn Fence.wide m Tryd.prog 66 #[.func (.yield l) #[] #[], .pointer (some ⟨Bs, 0, none⟩)] W1 _
  refine callsIn_of_wp Tryd.func66 rfl trivial ?_ rfl
  simp only [Tryd.ntmps66, List.size_toArray, List.length_cons, List.length_nil, Nat.reduceAdd, Nat.reduceSub, Array.replicate_succ, Array.replicate_zero, List.push_toArray, List.append_toArray, List.nil_append, List.cons_append]
  gi_wp2
  refine wpIn_loop_rounds 1 ?_
  rw [roundsIn_succ]
  gi_wp2
  go_end0
  exact ⟨⟨_, rfl⟩, O1, Ext.refl hO, .inl ⟨[], rfl, hJ⟩⟩

set_option maxRecDepth 100000 in
theorem back_one (B m l Bs A : Nat) (v : Value) (O1 : Blocks) (W1 : World) (hs : W1.cell? ⟨Bs, 0, none⟩ = some (.slice (some ⟨A, 0, none⟩) 1 1)) (hv : W1.cell? ⟨A, 0, none⟩ = some v) :
    Iter (α := Unit) B m Tryd.prog 66 #[.pointer (some ⟨Bs, 0, none⟩)] (fun _ => #[.int .i64 0, v]) (· = [()]) (· = [()]) O1 l W1 := by
  intro J Jx hJs hJxs hO hY hJ
  show CallsIn Fence.wide m Tryd.prog 66 #[.func (.yield l) #[] #[], .pointer (some ⟨Bs, 0, none⟩)] W1 _
  obtain ⟨fn, tmps, assign, body, hy, hR⟩ := hY [] () O1 W1 hJ hO rfl
  dsimp only at hy
  refine callsIn_of_wp Tryd.func66 rfl trivial ?_ rfl
  simp only [Tryd.ntmps66, List.size_toArray, List.length_cons, List.length_nil, Nat.reduceAdd, Nat.reduceSub, Array.replicate_succ, Array.replicate_zero, List.push_toArray, List.append_toArray, List.nil_append, List.cons_append]
  gi_wp2
  refine wpIn_loop_rounds 2 ?_
  rw [roundsIn_succ]
  gi_wp2
  refine ⟨fun h => (by simp [Fence.wide] at h), hR.mono ?_⟩
  rintro e W' ⟨O', hE, (⟨rfl, hJ'⟩ | ⟨rfl, hJ'⟩)⟩
  · gi_wp2
    rw [roundsIn_succ]
    gi_wp2
    go_end0
    exact ⟨⟨_, rfl⟩, O', hE, .inl ⟨[()], rfl, hJ'⟩⟩
  · gi_wp2
    refine bodyPost_ret (results_none rfl _ _ _) rfl ?_
    exact ⟨⟨_, rfl⟩, O', hE, .inr ⟨[()], rfl, hJ'⟩⟩
end Go.Proofs.YtehmkkccnadhoaaDoor.Fl
namespace Go.Proofs.YtehmkkccnadhoaaDoor.Fl
open Go.RowKit Go.Shelf

/-- What it wraps. -/
def Err.wraps : Err → Option Err
  | .num _ => none
  | .step _ _ _ e => some e
/-- The Step that it is. -/
def Err.own : Err → List Nat
  | .step b _ _ _ => [b]
  | _ => []
/-- Is it another's wrapping? -/
def Err.foreign : Err → Nat
  | _ => 0

/-- The gate's memory. -/
def GateSt (W : World) (Mb M Fb : Nat) (met : List Nat) (k : Nat) : Prop :=
  ∃ es clock, W.heap[Mb]? = some (.cells #[.map (some M)] 129 (0, 0)) ∧ W.heap[M]? = some (.map es clock) ∧ W.heap[Fb]? = some (.cells #[.int .i64 k] 3 (0, 0)) ∧
    es.toList.map (·.key) = met.map (fun b => Value.pointer (some ⟨b, 0, none⟩))

def gateO (M Fb : Nat) : Blocks := fun i => i = M ∨ i = Fb

theorem GateSt.kept {O : Blocks} {W W' : World} {Mb M Fb : Nat} {met : List Nat} {k : Nat} (h : GateSt W Mb M Fb met k) (hk : Kept O W W') (h1 : ¬ O Mb) (h2 : ¬ O M) (h3 : ¬ O Fb) : GateSt W' Mb M Fb met k := by
  obtain ⟨es, clock, hMb, hM, hF, hk'⟩ := h
  exact ⟨es, clock, (hk.block _ (lt_of_block hMb) h1).trans hMb, (hk.block _ (lt_of_block hM) h2).trans hM, (hk.block _ (lt_of_block hF) h3).trans hF, hk'⟩

theorem block_setCell {w : World} {b : Nat} {v u : Value} {t : TypeId} (h : w.heap[b]? = some (.cells #[v] t (0, 0))) : (w.setCell ⟨b, 0, none⟩ u).heap[b]? = some (.cells #[u] t (0, 0)) := by
  obtain ⟨hlt, hk⟩ := Array.getElem?_eq_some_iff.1 h
  show (w.heap.modify b _)[b]? = _
  rw [Array.getElem?_eq_getElem (by rw [Array.size_modify]; exact hlt), Array.getElem_modify_self, hk]
  rfl
theorem frozen_of_block {w : World} {b i : Nat} {c : Array Value} {t : TypeId} (h : w.heap[b]? = some (.cells c t (0, 0))) : w.frozen? ⟨b, i, none⟩ = false := by
  simp [World.frozen?, h]

theorem gate_any (e : Err) (Mb M Fb : Nat) (met : List Nat) (k : Nat) (w : World) (hs : GateSt w Mb M Fb met k) (_ : k < 1000) (hne : Mb ≠ M ∧ Mb ≠ Fb ∧ M ≠ Fb) (he : e.In w) (hmet : ∀ b ∈ met, e.top ≤ b ∧ ∃ c t, w.heap[b]? = some (.cells c t (0, 0))) :
    Calls Tryd.prog 65 #[e.val, .pointer (some ⟨Mb, 0, none⟩), .pointer (some ⟨Fb, 0, none⟩)] w fun ev w' => ev = .returned (.bool true) ∧ Kept (gateO M Fb) w w' ∧ GateSt w' Mb M Fb (met ++ e.own) (k + e.foreign) := by
  cases e with
  | num n =>
    refine (gate_24 _ _ _ w).mono ?_
    rintro ev w' ⟨rfl, rfl⟩
    exact ⟨rfl, Kept.refl _ _, by simpa [Err.own, Err.foreign] using hs⟩
  | step b s n e =>
    obtain ⟨es, clock, hMb, hM, hF, hkeys⟩ := hs
    obtain ⟨hb, _, _⟩ := he
    refine (gate_step b Mb M Fb _ _ es clock met w (cell_of_block hMb 0) hM hb ⟨hkeys, fun x hx => (hmet x hx).2⟩ (fun hx => by have := (hmet b hx).1; simp only [Err.top] at this; omega)).mono ?_
    rintro ev w' ⟨rfl, rfl⟩
    refine ⟨rfl, ((Kept.refl _ w).alloc _).putObj (fun _ => Or.inl rfl) _, es.push { key := .pointer (some ⟨b, 0, none⟩), val := .agg #[], born := clock }, clock + 1, ?_, ?_, ?_, ?_⟩
    · exact (World.putObj_heap_other hne.1).trans ((Below.heap_alloc w _ _ (lt_of_block hMb)).trans hMb)
    · exact World.putObj_heap_same (by have := lt_of_block hM; simp; omega)
    · exact (World.putObj_heap_other (Ne.symm hne.2.2)).trans ((Below.heap_alloc w _ _ (lt_of_block hF)).trans hF)
    · simp [Err.own, hkeys]

/-- What inner answers. -/
def InnerR (e : Err) (w : World) (ev : Ending) (w' : World) : Prop := Below w.heap.size w w' ∧ ∃ r, ev = .returned r ∧ match e.wraps with
  | none => r = .slice none 0 0
  | some x => ∃ A, r = .slice (some ⟨A, 0, none⟩) 1 1 ∧ w.heap.size ≤ A ∧ A < w'.heap.size ∧ w'.cell? ⟨A, 0, none⟩ = some x.val

theorem inner_any (e : Err) (w : World) (he : e.In w) : Calls Tryd.prog 47 #[e.val] w (InnerR e w) := by
  cases e with
  | num n =>
    refine (inner_24 _ w).mono ?_
    rintro ev w' ⟨rfl, hb⟩
    exact ⟨hb, _, rfl, rfl⟩
  | step b s n e =>
    obtain ⟨t, v, hv⟩ := e.val_iface
    refine (inner_step b t v w (by rw [cell_of_block he.1, hv]; rfl)).mono ?_
    rintro ev w' ⟨A, rfl, h1, h2, h3, hb⟩
    exact ⟨hb, _, rfl, A, rfl, h1, h2, by rw [h3, hv]⟩
end Go.Proofs.YtehmkkccnadhoaaDoor.Fl
namespace Go.Proofs.YtehmkkccnadhoaaDoor.Fl
open Go.RowKit Go.Extern.Stop Go.Stop Go.Extern Go.Shelf

/-- errors.errorType as it is laid. -/
def Laid (w : World) : Prop := w.cell? ⟨0, 0, none⟩ = some (.iface 136 (.agg #[.pointer (some ⟨3, 48, none⟩)]))

theorem alone_40 (x : Value) (w : World) : Calls Tryd.prog 30 #[.iface 88 x] w fun e w' => e = .returned (.iface 115 (.agg #[.iface 88 x])) ∧ w = w' := by
  have q := tA40_89
  have q2 := tA40_91
  go_enter Tryd.func30, Tryd.ntmps30
  go_wp2
  go_ret
  exact ⟨rfl, rfl⟩
theorem alone_24 (x : Value) (w : World) : Calls Tryd.prog 30 #[.iface 39 x] w fun e w' => e = .returned (.iface 39 x) ∧ w = w' := by
  have q := tA24_89
  have q2 := tA24_91
  go_enter Tryd.func30, Tryd.ntmps30
  go_wp2
  go_ret
  exact ⟨rfl, rfl⟩
theorem asW_kept (t : Addr) (w : World) : Kept noBlock w (asW t w) := ((Kept.refl _ w).alloc _).alloc _
theorem asW_size (t : Addr) (w : World) : (asW t w).heap.size = w.heap.size + 1 + 1 := by simp [asW]

/-- What a layer is, by itself. -/
def Err.self : Err → Option Int
  | .num n => some n
  | _ => none

/-- errors.As of a layer by itself. -/
def AsR (x : Option Int) (Bc : Nat) (w : World) (ev : Ending) (w' : World) : Prop :=
  Kept (fun k => k = Bc) w w' ∧ ev = .returned (.bool x.isSome) ∧ ∀ n, x = some n → w'.cell? ⟨Bc, 0, none⟩ = some (.int .i64 n)

theorem as_num (n : Int) (Bc : Nat) (old : Value) (w : World) (hg : Laid w) (hc : w.cell? ⟨Bc, 0, none⟩ = some old) (hf : w.frozen? ⟨Bc, 0, none⟩ = false) :
    Calls Tryd.prog 29 #[.iface 39 (.int .i64 n), .iface 76 (.pointer (some ⟨Bc, 0, none⟩))] w (AsR (some n) Bc w) := by
  have hl : Bc < w.heap.size := lt_of_cell hc
  refine as17_of _ w hg ((as32_hit n ⟨Bc, 0, none⟩ ⟨w.heap.size, 0, none⟩ old (asW ⟨Bc, 0, none⟩ w) ?_ (((asW_kept _ w).cell (p := ⟨Bc, 0, none⟩) hl (fun h => h)).trans hc) (((asW_kept _ w).frozen (p := ⟨Bc, 0, none⟩) hl (fun h => h)).trans hf)).mono ?_)
  · unfold asW
    rw [cOld (by simp), cNew rfl]
    rfl
  · rintro ev w' ⟨rfl, rfl⟩
    have k1 : Kept (fun k => k = Bc) w (((asW ⟨Bc, 0, none⟩ w).alloc (.cells #[.pointer (some ⟨3, 76, none⟩), .pointer (some ⟨w.heap.size, 0, none⟩), .int .u64 150] 101)).alloc (.cells #[.int .i64 n] 39)) :=
      (((asW_kept _ w).mono (fun _ _ h => h.elim)).alloc _).alloc _
    refine ⟨⟨true, rfl⟩, k1.setCell (p := ⟨Bc, 0, none⟩) (fun _ => rfl) _, rfl, ?_⟩
    rintro n' h
    cases h
    have h2 := asW_size ⟨Bc, 0, none⟩ w
    refine cSet (u := old) ?_
    rw [cOld (by simp [h2]; omega), cOld (by omega)]
    exact ((asW_kept _ w).cell (p := ⟨Bc, 0, none⟩) hl (fun h => h)).trans hc

theorem as_shell (v : Value) (hv : Plain v) (Bc : Nat) (w : World) (hg : Laid w) : Calls Tryd.prog 29 #[.iface 115 (.agg #[v]), .iface 76 (.pointer (some ⟨Bc, 0, none⟩))] w (AsR none Bc w) := by
  refine as17_of _ w hg ((as32_shell v hv ⟨Bc, 0, none⟩ ⟨w.heap.size, 0, none⟩ (asW ⟨Bc, 0, none⟩ w)).mono ?_)
  rintro ev w' ⟨rfl, rfl⟩
  exact ⟨⟨false, rfl⟩, (((asW_kept _ w).mono (fun _ _ h => h.elim)).alloc _).alloc _, rfl, fun n h => by cases h⟩

theorem code1_any (x : Err) (Bx Bc : Nat) (old : Value) (w : World) (hg : Laid w) (hx : w.cell? ⟨Bx, 0, none⟩ = some x.val) (hc : w.cell? ⟨Bc, 0, none⟩ = some old) (hf : w.frozen? ⟨Bc, 0, none⟩ = false) :
    Calls Tryd.prog 28 #[.pointer (some ⟨Bx, 0, none⟩), .pointer (some ⟨Bc, 0, none⟩)] w (AsR x.self Bc w) := by
  cases x with
  | num n =>
    have hx' : w.cell? ⟨Bx, 0, none⟩ = some (.iface 39 (.int .i64 n)) := hx
    go_enter Tryd.func28, Tryd.ntmps28
    go_wp2_with (first | (go_at_call 30; refine (alone_24 _ _).mono ?_; rintro e w' ⟨rfl, rfl⟩) | (go_at_call 29; refine (as_num n Bc old w hg hc hf).mono ?_; rintro e w' ⟨hk, rfl, hn⟩))
    go_ret
    exact ⟨hk, rfl, hn⟩
  | step b s n y =>
    have hx' : w.cell? ⟨Bx, 0, none⟩ = some (.iface 88 (.pointer (some ⟨b, 0, none⟩))) := hx
    go_enter Tryd.func28, Tryd.ntmps28
    go_wp2_with (first | (go_at_call 30; refine (alone_40 _ _).mono ?_; rintro e w' ⟨rfl, rfl⟩) | (go_at_call 29; refine (as_shell _ ⟨_, rfl⟩ Bc w hg).mono ?_; rintro e w' ⟨hk, rfl, hn⟩))
    go_ret
    exact ⟨hk, rfl, hn⟩

theorem enters22 (args : Array Value) (w : World) : (callFunc 28 args).run Tryd.prog w = .ok (.enter 28 args) w := enters_of Tryd.func28 (by kernel_rfl) rfl args w
end Go.Proofs.YtehmkkccnadhoaaDoor.Fl
namespace Go.Proofs.YtehmkkccnadhoaaDoor.Fl
open Go.RowKit Go.Shelf
attribute [local go_sem] Oper.semAt_some

/-- The body of the loop in layers. -/
def body36 : Code := ((Code.region 2 #[{ dst := some 11, op := Op.load 93 (Operand.tmp 4), type := 93, pos := "layers.go:20", after := #[], guard := none }, { dst := some 12, op := Op.call { callee := Callee.builtin Builtin.len, args := #[Operand.tmp 11], argTypes := #[93] }, type := 3, pos := "layers.go:20", after := #[{ on := 0, ground := Ground.data }], guard := none }, { dst := some 13, op := Op.binOp BinOp.gtr 3 (Operand.tmp 12) (Operand.const (Value.int IntKind.i64 0)) 3, type := 4, pos := "layers.go:20", after := #[{ on := 1, ground := Ground.data }], guard := none }] false).seq (Code.cond (Operand.tmp 13) Code.skip (Code.exit 0))).seq (Code.block 1 ((Code.region 3 #[{ dst := some 14, op := Op.load 93 (Operand.tmp 4), type := 93, pos := "layers.go:21", after := #[], guard := none }, { dst := some 15, op := Op.load 93 (Operand.tmp 4), type := 93, pos := "layers.go:21", after := #[], guard := none }, { dst := some 16, op := Op.call { callee := Callee.builtin Builtin.len, args := #[Operand.tmp 15], argTypes := #[93] }, type := 3, pos := "layers.go:21", after := #[{ on := 1, ground := Ground.data }], guard := none }, { dst := some 17, op := Op.binOp BinOp.sub 3 (Operand.tmp 16) (Operand.const (Value.int IntKind.i64 1)) 3, type := 3, pos := "layers.go:21", after := #[{ on := 2, ground := Ground.data }], guard := none }, { dst := some 18, op := Op.indexAddr 93 (Operand.tmp 14) (Operand.tmp 17), type := 0, pos := "layers.go:21", after := #[{ on := 0, ground := Ground.data }, { on := 3, ground := Ground.data }], guard := none }, { dst := some 19, op := Op.load 48 (Operand.tmp 18), type := 48, pos := "layers.go:21", after := #[{ on := 4, ground := Ground.data }], guard := none }, { dst := some 5, op := Op.assign (Operand.tmp 19), type := 48, pos := "layers.go:21", after := #[{ on := 5, ground := Ground.data }, { on := 0, ground := Ground.phase }, { on := 1, ground := Ground.phase }, { on := 2, ground := Ground.phase }, { on := 3, ground := Ground.phase }, { on := 4, ground := Ground.phase }, { on := 5, ground := Ground.phase }], guard := none }] false).seq ((Code.region 4 #[{ dst := some 20, op := Op.load 93 (Operand.tmp 4), type := 93, pos := "layers.go:22", after := #[], guard := none }, { dst := some 21, op := Op.load 93 (Operand.tmp 4), type := 93, pos := "layers.go:22", after := #[], guard := none }, { dst := some 22, op := Op.call { callee := Callee.builtin Builtin.len, args := #[Operand.tmp 21], argTypes := #[93] }, type := 3, pos := "layers.go:22", after := #[{ on := 1, ground := Ground.data }], guard := none }, { dst := some 23, op := Op.binOp BinOp.sub 3 (Operand.tmp 22) (Operand.const (Value.int IntKind.i64 1)) 3, type := 3, pos := "layers.go:22", after := #[{ on := 2, ground := Ground.data }], guard := none }, { dst := some 24, op := Op.slice 93 (Operand.tmp 20) none (some (Operand.tmp 23)) none, type := 93, pos := "layers.go:22", after := #[{ on := 0, ground := Ground.data }, { on := 3, ground := Ground.data }], guard := none }, { dst := none, op := Op.store 93 (Operand.tmp 4) (Operand.tmp 24), type := 0, pos := "layers.go:22", after := #[{ on := 4, ground := Ground.data }, { on := 0, ground := Ground.phase }, { on := 1, ground := Ground.phase }, { on := 2, ground := Ground.phase }, { on := 3, ground := Ground.phase }, { on := 4, ground := Ground.phase }], guard := none }] false).seq (((Code.region 5 #[{ dst := some 25, op := Op.move (Operand.tmp 3), type := 91, pos := "layers.go:23", after := #[], guard := none }, { dst := some 26, op := Op.move (Operand.tmp 5), type := 48, pos := "layers.go:23", after := #[], guard := none }, { dst := some 27, op := Op.call { callee := Callee.value (Operand.tmp 25), args := #[Operand.tmp 26], argTypes := #[48] }, type := 4, pos := "layers.go:23", after := #[{ on := 0, ground := Ground.data }, { on := 1, ground := Ground.data }], guard := none }, { dst := some 28, op := Op.unOp UnOp.not 4 (Operand.tmp 27), type := 4, pos := "layers.go:23", after := #[{ on := 2, ground := Ground.data }], guard := none }] false).seq (Code.cond (Operand.tmp 28) (Code.exit 1) Code.skip)).seq (((Code.region 6 #[{ dst := some 29, op := Op.move (Operand.tmp 0), type := 91, pos := "layers.go:26", after := #[], guard := none }, { dst := some 30, op := Op.move (Operand.tmp 5), type := 48, pos := "layers.go:26", after := #[], guard := none }, { dst := some 31, op := Op.call { callee := Callee.value (Operand.tmp 29), args := #[Operand.tmp 30], argTypes := #[48] }, type := 4, pos := "layers.go:26", after := #[{ on := 0, ground := Ground.data }, { on := 1, ground := Ground.data }], guard := none }, { dst := some 32, op := Op.unOp UnOp.not 4 (Operand.tmp 31), type := 4, pos := "layers.go:26", after := #[{ on := 2, ground := Ground.data }], guard := none }] false).seq (Code.cond (Operand.tmp 32) Code.ret Code.skip)).seq ((Code.region 7 #[{ dst := some 33, op := Op.move (Operand.tmp 5), type := 48, pos := "layers.go:29", after := #[], guard := none }, { dst := some 34, op := Op.call { callee := Callee.value (Operand.func 47), args := #[Operand.tmp 33], argTypes := #[48] }, type := 93, pos := "layers.go:29", after := #[{ on := 0, ground := Ground.data }], guard := none }, { dst := some 35, op := Op.call { callee := Callee.value (Operand.func 46), args := #[Operand.tmp 34], argTypes := #[93] }, type := 95, pos := "layers.go:29", after := #[{ on := 1, ground := Ground.data }, { on := 1, ground := Ground.chain }], guard := none }] false).seq (Code.block 2 (Code.rangeFunc (Operand.tmp 35) #[36, 37] (Code.region 8 #[{ dst := some 7, op := Op.assign (Operand.tmp 37), type := 48, pos := "layers.go:29", after := #[], guard := none }] false) (Code.block 3 (Code.region 9 #[{ dst := some 38, op := Op.load 93 (Operand.tmp 4), type := 93, pos := "layers.go:30", after := #[], guard := none }, { dst := some 39, op := Op.move (Operand.tmp 7), type := 48, pos := "layers.go:30", after := #[], guard := none }, { dst := some 40, op := Op.buildSlice 93 1 #[(0, Operand.tmp 39)], type := 93, pos := "layers.go:30", after := #[{ on := 1, ground := Ground.data }], guard := none }, { dst := some 41, op := Op.call { callee := Callee.builtin Builtin.append, args := #[Operand.tmp 38, Operand.tmp 40], argTypes := #[93, 93] }, type := 93, pos := "layers.go:30", after := #[{ on := 0, ground := Ground.data }, { on := 2, ground := Ground.data }], guard := none }, { dst := none, op := Op.store 93 (Operand.tmp 4) (Operand.tmp 41), type := 0, pos := "layers.go:30", after := #[{ on := 3, ground := Ground.data }, { on := 3, ground := Ground.chain }, { on := 0, ground := Ground.phase }, { on := 1, ground := Ground.phase }, { on := 2, ground := Ground.phase }, { on := 3, ground := Ground.phase }], guard := none }] false))))))))))

/-- Marks of loops over functions that are over. -/
def markOf (D : Nat) : Deferred := { target := .collected D, args := #[] }
structure Marks (B : Nat) (W : World) (O : Blocks) (ds : List Deferred) (Ds : List Nat) : Prop where
  eq : ds = Ds.map markOf
  nodup : Ds.Nodup
  lie : ∀ D ∈ Ds, B ≤ D ∧ W.heap[D]? = some (.deferred (some [])) ∧ ¬ O D

theorem Marks.kept {B : Nat} {O O' O2 : Blocks} {W W' : World} {ds : List Deferred} {Ds : List Nat} (h : Marks B W O ds Ds) (hk : Kept O2 W W') (h2 : ∀ D, O2 D → W.heap[D]? ≠ some (.deferred (some [])) ∨ O D) (hO : ∀ k, O' k → O k ∨ W.heap.size ≤ k) : Marks B W' O' ds Ds :=
  ⟨h.eq, h.nodup, fun D hD => by
    obtain ⟨h1, h3, h4⟩ := h.lie D hD
    have hl := lt_of_block h3
    refine ⟨h1, (hk.block D hl (fun e => ?_)).trans h3, fun e => ?_⟩
    · rcases h2 D e with h | h
      · exact h h3
      · exact h4 h
    · rcases hO D e with h | h
      · exact h4 h
      · omega⟩

/-- The iterator's own blocks: the list that is left, its array, the gate's. -/
structure OwnB (B Lb La Mb M Fb : Nat) : Prop where
  le : B ≤ Lb ∧ B ≤ La ∧ B ≤ Mb ∧ B ≤ M ∧ B ≤ Fb
  ne : Mb ≠ M ∧ Mb ≠ Fb ∧ M ≠ Fb
  ne' : Lb ≠ La ∧ Lb ≠ Mb ∧ Lb ≠ M ∧ Lb ≠ Fb ∧ La ≠ Mb ∧ La ≠ M ∧ La ≠ Fb

def notOwn (Lb La Mb M Fb : Nat) (O : Blocks) : Prop := ¬ O Lb ∧ ¬ O La ∧ ¬ O Mb ∧ ¬ O M ∧ ¬ O Fb

/-- How the loop is left. -/
def Q36 (all : List Err) (J Jx : List Err → Blocks → World → Prop) (O1 : Blocks) (W1 : World) (ex : Exit) (a : Act) (W' : World) : Prop :=
  (ex = .exit 0 ∨ ex = .ret) ∧ ∃ Ds O', Marks W1.heap.size W' O' a.defers Ds ∧ Ext O1 O' W1 W' ∧ (J all O' W' ∨ ∃ pre, pre <+: all ∧ Jx pre O' W')

set_option maxRecDepth 100000 in
/-- Nothing is left. -/
theorem loop_end {m l Be Lb La Mb Fb : Nat} {O1 : Blocks} {W1 : World} {all : List Err} {J Jx : List Err → Blocks → World → Prop}
    (O : Blocks) (W : World) (ds : List Deferred) (Ds : List Nat) (u2 u5 u6 u7 u8 u9 u10 u11 u12 u13 u14 u15 u16 u17 u18 u19 u20 u21 u22 u23 u24 u25 u26 u27 u28 u29 u30 u31 u32 u33 u34 u35 u36 u37 u38 u39 u40 u41 : Value) (hJ : J all O W) (hE : Ext O1 O W1 W) (hds : Marks W1.heap.size W O ds Ds)
    (hL : W.cell? ⟨Lb, 0, none⟩ = some (.slice (some ⟨La, 0, none⟩) 0 1)) :
    Code.roundsIn Fence.wide m Tryd.prog body36 (Q36 all J Jx O1 W1) 1 { tmps := #[.func (.yield l) #[] #[], .pointer (some ⟨Be, 0, none⟩), u2, .func (.func 65) #[] #[.pointer (some ⟨Mb, 0, none⟩), .pointer (some ⟨Fb, 0, none⟩)], .pointer (some ⟨Lb, 0, none⟩), u5, u6, u7, u8, u9, u10, u11, u12, u13, u14, u15, u16, u17, u18, u19, u20, u21, u22, u23, u24, u25, u26, u27, u28, u29, u30, u31, u32, u33, u34, u35, u36, u37, u38, u39, u40, u41], defers := ds } W := by
  rw [roundsIn_succ]
  unfold body36
  gi_wp2
  exact ⟨.inl rfl, Ds, O, hds, hE, .inl hJ⟩

theorem callsW {n f : Nat} {args : Array Value} {w : World} {R : Ending → World → Prop} (h : Calls Tryd.prog f args w R) : CallsIn Fence.wide n Tryd.prog f args w R := callsIn_wide.2 h

set_option maxRecDepth 100000 in
set_option maxHeartbeats 4000000 in
theorem loop_round {m l Be Lb La Mb M Fb B : Nat} {O1 : Blocks} {W1 : World} {all : List Err} {J Jx : List Err → Blocks → World → Prop} (hJs : Stable B J)
    (hY : ∀ pre x O W2, J pre O W2 → (∀ k, O k → k < W2.heap.size) → pre ++ [x] <+: all → YieldAt Fence.wide (m - 1) Tryd.prog l #[x.val] W2 (roundR J Jx (pre ++ [x]) O W2))
    (hown : OwnB W1.heap.size Lb La Mb M Fb) (hB : B ≤ W1.heap.size) (hO1 : ∀ k, O1 k → B ≤ k)
    (e : Err) (pre : List Err) (O : Blocks) (W : World) (met : List Nat) (k : Nat) (ds : List Deferred) (Ds : List Nat) (u2 u5 u6 u7 u8 u9 u10 u11 u12 u13 u14 u15 u16 u17 u18 u19 u20 u21 u22 u23 u24 u25 u26 u27 u28 u29 u30 u31 u32 u33 u34 u35 u36 u37 u38 u39 u40 u41 : Value) (hall : pre ++ [e] <+: all) (hJ : J pre O W) (hE : Ext O1 O W1 W) (hno : notOwn Lb La Mb M Fb O)
    (he : e.In W1) (htop : e.top ≤ B) (hmet : ∀ b ∈ met, e.top ≤ b ∧ b < B ∧ ∃ c t, W1.heap[b]? = some (.cells c t (0, 0))) (hG : GateSt W Mb M Fb met k) (hk : k < 1000)
    (hL : W.heap[Lb]? = some (.cells #[.slice (some ⟨La, 0, none⟩) 1 1] 93 (0, 0))) (hA : W.heap[La]? = some (.cells #[e.val] 48 (0, 0))) (hds : Marks W1.heap.size W O ds Ds)
    (K : Act → World → Prop)
    (hK : ∀ O' W' ds' Ds' u2 u5 u6 u7 u8 u9 u10 u11 u12 u13 u14 u15 u16 u17 u18 u19 u20 u21 u22 u23 u24 u25 u26 u27 u28 u29 u30 u31 u32 u33 u34 u35 u36 u37 u38 u39 u40 u41, J (pre ++ [e]) O' W' → Ext O1 O' W1 W' → notOwn Lb La Mb M Fb O' → GateSt W' Mb M Fb (met ++ e.own) (k + e.foreign) → Marks W1.heap.size W' O' ds' Ds' →
      (match e.wraps with
        | none => W'.heap[Lb]? = some (.cells #[.slice (some ⟨La, 0, none⟩) 0 1] 93 (0, 0))
        | some x => W'.heap[Lb]? = some (.cells #[.slice (some ⟨La, 0, none⟩) 1 1] 93 (0, 0)) ∧ W'.heap[La]? = some (.cells #[x.val] 48 (0, 0))) →
      K { tmps := #[.func (.yield l) #[] #[], .pointer (some ⟨Be, 0, none⟩), u2, .func (.func 65) #[] #[.pointer (some ⟨Mb, 0, none⟩), .pointer (some ⟨Fb, 0, none⟩)], .pointer (some ⟨Lb, 0, none⟩), u5, u6, u7, u8, u9, u10, u11, u12, u13, u14, u15, u16, u17, u18, u19, u20, u21, u22, u23, u24, u25, u26, u27, u28, u29, u30, u31, u32, u33, u34, u35, u36, u37, u38, u39, u40, u41], defers := ds' } W') :
    body36.wpIn Fence.wide m Tryd.prog (Exit.then K (Q36 all J Jx O1 W1)) { tmps := #[.func (.yield l) #[] #[], .pointer (some ⟨Be, 0, none⟩), u2, .func (.func 65) #[] #[.pointer (some ⟨Mb, 0, none⟩), .pointer (some ⟨Fb, 0, none⟩)], .pointer (some ⟨Lb, 0, none⟩), u5, u6, u7, u8, u9, u10, u11, u12, u13, u14, u15, u16, u17, u18, u19, u20, u21, u22, u23, u24, u25, u26, u27, u28, u29, u30, u31, u32, u33, u34, u35, u36, u37, u38, u39, u40, u41], defers := ds } W := by
  obtain ⟨t0, x0, hv⟩ := e.val_iface
  have hLc : W.cell? ⟨Lb, 0, none⟩ = some (.slice (some ⟨La, 0, none⟩) 1 1) := cell_of_block hL 0
  have hLf := frozen_of_block (i := 0) hL
  have hAc : W.cell? ⟨La, 0, none⟩ = some e.val := cell_of_block hA 0
  rw [hv] at hAc
  obtain ⟨⟨le1, le2, le3, le4, le5⟩, hne, ne1, ne2, ne3, ne4, ne5, ne6, ne7⟩ := hown
  obtain ⟨no1, no2, no3, no4, no5⟩ := hno
  have hLl := lt_of_block hL
  have hAl := lt_of_block hA
  have hGl : Mb < W.heap.size ∧ M < W.heap.size ∧ Fb < W.heap.size := by
    obtain ⟨es, clock, g1, g2, g3, _⟩ := hG
    exact ⟨lt_of_block g1, lt_of_block g2, lt_of_block g3⟩
  -- the world in which the gate is asked
  have kWa : Kept (fun i => i = Lb) W (W.setCell ⟨Lb, 0, none⟩ (.slice (some ⟨La, 0, none⟩) 0 1)) := Kept.setCell (O := fun i => i = Lb) (Kept.refl _ W) (p := ⟨Lb, 0, none⟩) (fun _ => rfl) _
  have hLa : (W.setCell ⟨Lb, 0, none⟩ (.slice (some ⟨La, 0, none⟩) 0 1)).heap[Lb]? = some (.cells #[.slice (some ⟨La, 0, none⟩) 0 1] 93 (0, 0)) := block_setCell hL
  unfold body36
  gi_wp2_with (fail)
  generalize W.setCell ⟨Lb, 0, none⟩ (.slice (some ⟨La, 0, none⟩) 0 1) = Wa at kWa hLa ⊢
  have hAa : Wa.heap[La]? = some (.cells #[e.val] 48 (0, 0)) := (kWa.block La hAl (Ne.symm ne1)).trans hA
  have hGa : GateSt Wa Mb M Fb met k := hG.kept kWa (Ne.symm ne2) (Ne.symm ne3) (Ne.symm ne4)
  have heW : e.In W := he.kept hE.kept (fun i hi h => by have := hO1 i h; omega)
  have hea : e.In Wa := heW.kept kWa (fun i hi h => by omega)
  have hmW : ∀ b ∈ met, e.top ≤ b ∧ b < B ∧ ∃ c t, W.heap[b]? = some (.cells c t (0, 0)) := fun b hb => by
    obtain ⟨h1, h2, c, t, h3⟩ := hmet b hb
    exact ⟨h1, h2, c, t, (hE.kept.block b (by omega) (fun h => by have := hO1 b h; omega)).trans h3⟩
  have hma : ∀ b ∈ met, e.top ≤ b ∧ ∃ c t, Wa.heap[b]? = some (.cells c t (0, 0)) := fun b hb => by
    obtain ⟨h1, h2, c, t, h3⟩ := hmW b hb
    exact ⟨h1, c, t, (kWa.block b (lt_of_block h3) (by omega)).trans h3⟩
  have hsa := kWa.size
  have hJa : J pre O Wa := hJs _ _ _ _ hJ hsa (fun i hi => kWa.block i (by rcases hi with h | h; exact (hE.grows i h).2; have := hE.kept.size; omega) (fun h => by subst h; rcases hi with h | h; exact no1 h; omega))
  have hga := gate_any e Mb M Fb met k Wa hGa hk hne hea hma
  rw [hv] at hga
  refine ⟨trivial, fun h => (by simp [Fence.wide] at h), (callsW hga).mono ?_⟩
  clear hga
  rintro ev Wg ⟨rfl, kg, hGg⟩
  have hsg := kg.size
  have kWg : Kept (fun i => i = Lb ∨ i = M ∨ i = Fb) W Wg := (kWa.mono (fun i _ h => .inl h)).trans kg (fun i _ h => .inr h)
  have hLg : Wg.heap[Lb]? = some (.cells #[.slice (some ⟨La, 0, none⟩) 0 1] 93 (0, 0)) := (kg.block Lb (by omega) (by simp [gateO]; omega)).trans hLa
  have hAg : Wg.heap[La]? = some (.cells #[e.val] 48 (0, 0)) := (kg.block La (by omega) (by simp [gateO]; omega)).trans hAa
  have hJg : J pre O Wg := hJs _ _ _ _ hJ (by omega) (fun i hi => kWg.block i (by rcases hi with h | h; exact (hE.grows i h).2; have := hE.kept.size; omega) (by rintro (h | h | h) <;> subst h <;> rcases hi with h' | h' <;> first | contradiction | omega))
  have hdg : Marks W1.heap.size Wg O ds Ds := hds.kept kWg (by
    intro D h
    left
    obtain ⟨es, clock, g1, g2, g3, _⟩ := hG
    rcases h with h | h | h <;> subst h
    · rw [hL]; simp
    · rw [g2]; simp
    · rw [g3]; simp) (fun i hi => .inl hi)
  have hEg : Ext O1 O W1 Wg := ⟨hE.kept.trans kWg (by rintro i hi (h | h | h) <;> omega), fun i hi => ⟨(hE.grows i hi).1, by have := (hE.grows i hi).2; omega⟩⟩
  have heg : e.In Wg := heW.kept kWg (by rintro i hi (h | h | h) <;> omega)
  obtain ⟨fn, tmps', assign, bodyc, hy, hR⟩ := hY pre e O Wg hJg (fun i hi => (hEg.grows i hi).2) hall
  rw [hv] at hy
  gi_wp2_with (fail)
  refine ⟨fun h => (by simp [Fence.wide] at h), hR.mono ?_⟩
  clear hR hy
  rintro ev Wy ⟨O', hEy, (⟨rfl, hJy⟩ | ⟨rfl, hJy⟩)⟩
  · have hsy := hEy.kept.size
    have hEy1 : Ext O1 O' W1 Wy := hEg.trans hEy
    have hno' : ∀ i, i < Wg.heap.size → ¬ O i → ¬ O' i := fun i hi h h' => by
      rcases (hEy.grows i h').1 with h1 | h1
      · exact h h1
      · omega
    have hLy : Wy.heap[Lb]? = some (.cells #[.slice (some ⟨La, 0, none⟩) 0 1] 93 (0, 0)) := (hEy.kept.block Lb (by omega) no1).trans hLg
    have hAy : Wy.heap[La]? = some (.cells #[e.val] 48 (0, 0)) := (hEy.kept.block La (by omega) no2).trans hAg
    have hGy : GateSt Wy Mb M Fb (met ++ e.own) (k + e.foreign) := hGg.kept hEy.kept no3 no4 no5
    have hey : e.In Wy := he.kept hEy1.kept (fun i hi h => by have := hO1 i h; omega)
    have hdy : Marks W1.heap.size Wy O' ds Ds := hdg.kept hEy.kept (fun D h => .inr h) (fun i hi => (hEy.grows i hi).1)
    have hin := inner_any e Wy hey
    rw [hv] at hin
    gi_wp2_with (fail)
    refine ⟨trivial, fun h => (by simp [Fence.wide] at h), (callsW hin).mono ?_⟩
    clear hin
    rintro ev Wi ⟨hbi, r, rfl, hr⟩
    have kWi : Kept noBlock Wy Wi := Kept.of_below' hbi
    have hsi := hbi.size
    have hLyl := lt_of_block hLy
    have hAyl := lt_of_block hAy
    have n1 := hno' Lb (by omega) no1
    have n2 := hno' La (by omega) no2
    have fin : ∀ (sv : Value) (O2 : Blocks) (Wf : World), Ext (fun i => i = Lb ∨ i = La) O2 (Wi.alloc (.cells #[sv] 93)) Wf → Wf.heap[Wi.heap.size + 1]? = some (.deferred (some [])) →
        J (pre ++ [e]) O' Wf ∧ Ext O1 O' W1 Wf ∧ notOwn Lb La Mb M Fb O' ∧ GateSt Wf Mb M Fb (met ++ e.own) (k + e.foreign) ∧ Marks W1.heap.size Wf O' (markOf (Wi.heap.size + 1) :: ds) ((Wi.heap.size + 1) :: Ds) := by
      intro sv O2 Wf hX hD
      have kf : Kept (fun i => i = Lb ∨ i = La) Wy Wf := (((kWi.mono (fun i _ h => h.elim)).alloc _).trans hX.kept (fun i _ h => h))
      have hsf := kf.size
      refine ⟨hJs _ _ _ _ hJy hsf (fun i hi => kf.block i (by rcases hi with h | h; exact (hEy.grows i h).2; have := hEy1.kept.size; omega) (by rintro (h | h) <;> subst h <;> rcases hi with h' | h' <;> first | contradiction | omega)),
        ⟨hEy1.kept.trans kf (by rintro i hi (h | h) <;> omega), fun i hi => ⟨(hEy1.grows i hi).1, by have := (hEy1.grows i hi).2; omega⟩⟩,
        ⟨n1, n2, hno' Mb (by omega) no3, hno' M (by omega) no4, hno' Fb (by omega) no5⟩,
        hGy.kept kf (by omega) (by omega) (by omega), by rw [hdy.eq]; rfl, ?_, ?_⟩
      · refine List.nodup_cons.2 ⟨fun h => ?_, hdy.nodup⟩
        have := lt_of_block (hdy.lie _ h).2.1
        omega
      · intro D hD'
        rcases List.mem_cons.1 hD' with h | h
        · subst h
          exact ⟨by omega, hD, fun h => by have := (hEy.grows _ h).2; omega⟩
        · obtain ⟨h1, h2, h3⟩ := hdy.lie D h
          refine ⟨h1, (kf.block D (lt_of_block h2) ?_).trans h2, h3⟩
          rintro (h | h) <;> subst h
          · rw [hLy] at h2; cases h2
          · rw [hAy] at h2; cases h2
    cases hw : e.wraps with
    | none =>
      rw [hw] at hr
      dsimp only at hr
      subst hr
      gi_wp2_with (fail)
      refine ⟨trivial, fun h => (by simp [Fence.wide] at h), (callsW (backward_any none 0 0 Wi)).mono ?_⟩
      rintro ev Wb ⟨rfl, rfl⟩
      gi_wp2_with (fail)
      refine range_law (α := Unit) 0 (gf := 66) (lb := #[.pointer (some ⟨Wi.heap.size, 0, none⟩)]) rfl enters46 (encs := fun _ => #[.int .i64 0, .nilIface]) (ok := fun _ => False) (S := (· = [])) (fun _ => rfl) (Nat.zero_le _)
        (fun i => i = Lb ∨ i = La) (by rintro i (h | h) <;> (simp only [World.size_alloc]; omega))
        (fun W2 hb _ => back_nil _ _ _ _ _ _ _ ((hb.cell (p := ⟨Wi.heap.size, 0, none⟩) (by simp)).trans (by rw [cNew rfl]; rfl)))
        (fun _ O W => O Lb ∧ W.heap[Lb]? = some (.cells #[.slice (some ⟨La, 0, none⟩) 0 1] 93 (0, 0))) (fun _ _ _ _ => False) (fun _ _ _ _ h _ hk => ⟨h.1, (hk _ (.inl h.1)).trans h.2⟩) (fun _ _ _ _ _ h _ _ => h)
        ⟨.inl rfl, ((Below.heap_alloc Wi _ Lb (by omega)).trans (hbi.block Lb (by omega))).trans hLy⟩ (fun _ _ _ _ _ _ _ h _ _ _ _ => h.elim) ?done (fun _ _ _ _ h _ _ _ _ => h.elim)
      case done =>
        rintro xs O2 Wf rfl hI hX _ hD
        rw [World.size_alloc] at hD
        obtain ⟨f1, f2, f3, f4, f5⟩ := fin _ O2 Wf hX hD
        simp only [World.size_alloc]
        exact hK O' Wf (markOf (Wi.heap.size + 1) :: ds) _ _ _ _ _ _ _ _ _ _ _ _ _ _ _ _ _ _ _ _ _ _ _ _ _ _ _ _ _ _ _ _ _ _ _ _ _ _ _ f1 f2 f3 f4 f5 (by rw [hw]; exact hI.2)
    | some x =>
      rw [hw] at hr
      obtain ⟨A, rfl, hA1, hA2, hA3⟩ := hr
      gi_wp2_with (fail)
      refine ⟨trivial, fun h => (by simp [Fence.wide] at h), (callsW (backward_any _ 1 1 Wi)).mono ?_⟩
      rintro ev Wb ⟨rfl, rfl⟩
      gi_wp2_with (fail)
      obtain ⟨tx, vx, hx⟩ := x.val_iface
      rw [hx] at hA3
      refine range_law (α := Unit) 0 (gf := 66) (lb := #[.pointer (some ⟨Wi.heap.size, 0, none⟩)]) rfl enters46 (encs := fun _ => #[.int .i64 0, .iface tx vx]) (ok := (· = [()])) (S := (· = [()])) (fun _ => rfl) (Nat.zero_le _)
        (fun i => i = Lb ∨ i = La) (by rintro i (h | h) <;> (simp only [World.size_alloc]; omega))
        (fun W2 hb _ => back_one _ _ _ _ A _ _ _ ((hb.cell (p := ⟨Wi.heap.size, 0, none⟩) (by simp)).trans (by rw [cNew rfl]; rfl)) ((hb.cell (p := ⟨A, 0, none⟩) (by simp; omega)).trans ((cOld hA2).trans hA3)))
        (fun pre O W => (∀ i, O i ↔ i = Lb ∨ i = La) ∧ W.heap[Lb]? = some (.cells #[.slice (some ⟨La, 0, none⟩) pre.length 1] 93 (0, 0)) ∧ ∃ v, W.heap[La]? = some (.cells #[v] 48 (0, 0)) ∧ (pre = [()] → v = .iface tx vx))
        (fun _ _ _ _ => False) (fun _ _ _ _ h _ hk => by
          obtain ⟨h1, h2, v, h3, h4⟩ := h
          exact ⟨h1, (hk _ (.inl ((h1 _).2 (.inl rfl)))).trans h2, v, (hk _ (.inl ((h1 _).2 (.inr rfl)))).trans h3, h4⟩) (fun _ _ _ _ _ h _ _ => h)
        ⟨fun _ => Iff.rfl, ((Below.heap_alloc Wi _ Lb (by omega)).trans (hbi.block Lb (by omega))).trans hLy, e.val, ((Below.heap_alloc Wi _ La (by omega)).trans (hbi.block La (by omega))).trans hAy, fun h => by simp at h⟩ ?round ?done (fun _ _ _ _ _ h _ _ _ => h.elim)
      case round =>
        rintro l' pre' x' O2 W2 ⟨g1, g2, v2, g3, _⟩ hO2 hok _ hl' _ _
        obtain rfl : pre' = [] := by cases pre' with | nil => rfl | cons a r => simp at hok
        gi_wp2
        refine ⟨O2, Ext.refl hO2, ?_⟩
        intro W3 hs3 hb3 ho3 ht3 hu3
        have g2' : W3.heap[Lb]? = some (.cells #[.slice (some ⟨La, 0, none⟩) 0 1] 93 (0, 0)) := (hb3 Lb (fun h => hl' (h ▸ (g1 Lb).2 (.inl rfl)))).trans g2
        have g3' : W3.heap[La]? = some (.cells #[v2] 48 (0, 0)) := (hb3 La (fun h => hl' (h ▸ (g1 La).2 (.inr rfl)))).trans g3
        have c2 : W3.cell? ⟨Lb, 0, none⟩ = some (.slice (some ⟨La, 0, none⟩) 0 1) := cell_of_block g2' 0
        have l2 := lt_of_block g2'
        have l3 := lt_of_block g3'
        have c3 : W3.cell? ⟨La, 0, none⟩ = some v2 := cell_of_block g3' 0
        have f2 : W3.frozen? ⟨Lb, 0, none⟩ = false := frozen_of_block g2'
        have f3 : W3.frozen? ⟨La, 0, none⟩ = false := frozen_of_block g3'
        have hsl : W2.heap.size ≤ W3.heap.size := by omega
        have c4 : (W3.alloc (.cells #[.iface tx vx] 48)).cell? ⟨La, 0, none⟩ = some v2 := (cOld l3).trans c3
        have f4 : (W3.alloc (.cells #[.iface tx vx] 48)).frozen? ⟨La, 0, none⟩ = false := (fOld l3).trans f3
        clear hs3 ho3 ht3 hu3
        gi_wp2_with (fail)
        have sz : ((W3.setCell ⟨La, 0, none⟩ (.iface tx vx)).setCell ⟨Lb, 0, none⟩ (.slice (some ⟨La, 0, none⟩) 1 1)).heap.size = W3.heap.size := by rw [sSet, sSet]
        refine ⟨O2, ⟨Kept.alloc (Kept.setCell (Kept.setCell (Kept.refl O2 W3) (p := ⟨La, 0, none⟩) (fun _ => (g1 La).2 (.inr rfl)) _) (p := ⟨Lb, 0, none⟩) (fun _ => (g1 Lb).2 (.inl rfl)) _) _, fun i hi => ⟨.inl hi, ?_⟩⟩, g1, ?_, .iface tx vx, ?_, fun _ => rfl⟩
        · have := hO2 i hi
          rw [World.size_alloc, sz]; omega
        · exact (Below.heap_alloc _ _ Lb (by rw [sz]; exact l2)).trans (block_setCell ((Below.heap_setCell _ _ _ Lb ne1).trans g2'))
        · exact (Below.heap_alloc _ _ La (by rw [sz]; exact l3)).trans ((Below.heap_setCell _ _ _ La (Ne.symm ne1)).trans (block_setCell g3'))
      case done =>
        rintro xs O2 Wf rfl ⟨_, g2, v2, g3, g4⟩ hX _ hD
        rw [World.size_alloc] at hD
        obtain ⟨f1, f2, f3, f4, f5⟩ := fin _ O2 Wf hX hD
        obtain rfl := g4 rfl
        simp only [World.size_alloc]
        exact hK O' Wf (markOf (Wi.heap.size + 1) :: ds) _ _ _ _ _ _ _ _ _ _ _ _ _ _ _ _ _ _ _ _ _ _ _ _ _ _ _ _ _ _ _ _ _ _ _ _ _ _ _ f1 f2 f3 f4 f5 (by rw [hw]; exact ⟨g2, by rw [hx]; exact g3⟩)
  · gi_wp2
    have hEy1 : Ext O1 O' W1 Wy := hEg.trans hEy
    exact ⟨.inr rfl, Ds, O', hdg.kept hEy.kept (fun D h => .inr h) (fun i hi => (hEy.grows i hi).1), hEy1, .inr ⟨pre ++ [e], hall, hJy⟩⟩
end Go.Proofs.YtehmkkccnadhoaaDoor.Fl
