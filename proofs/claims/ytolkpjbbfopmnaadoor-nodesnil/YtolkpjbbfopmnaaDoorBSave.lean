/-
  What save of a base does: the node of a sum, to which a way leads, is there then, and what was there stays; conditions: the base and the tree lie in memory ahead of the way's row. It writes into the base's map, the row's spare room and memory of its own alone.
-/
import Derived.Test.YtolkpjbbfopmnaaDoorWayRow
import Derived.Test.YtolkpjbbfopmnaaDoorBalA
namespace Go.Proofs.YtolkpjbbfopmnaaDoor
open Go.RowKit Go.Shelf
open Tr

/-- All blocks but the map and the way's row are as they were. -/
structure Fr (M : Nat) (row : Option Nat) (w w' : World) : Prop where
  os : w'.os = w.os
  tape : w'.tape = w.tape
  output : w'.output = w.output
  size : w.heap.size ≤ w'.heap.size
  block : ∀ k, k < w.heap.size → k ≠ M → some k ≠ row → w'.heap[k]? = w.heap[k]?
theorem Fr.refl (M : Nat) (row : Option Nat) (w : World) : Fr M row w w := ⟨rfl, rfl, rfl, Nat.le_refl _, fun _ _ _ _ => rfl⟩
theorem Fr.trans {M : Nat} {row : Option Nat} {u v w : World} (h : Fr M row u v) (h' : Fr M row v w) : Fr M row u w :=
  ⟨h'.os.trans h.os, h'.tape.trans h.tape, h'.output.trans h.output, Nat.le_trans h.size h'.size, fun k hk hM hr => (h'.block k (Nat.lt_of_lt_of_le hk h.size) hM hr).trans (h.block k hk hM hr)⟩
theorem Fr.of_below {M : Nat} {row : Option Nat} {w w' : World} (h : Below w.heap.size w w') : Fr M row w w' := ⟨h.os, h.tape, h.output, h.size, fun k hk _ _ => h.block k hk⟩
theorem Fr.of_grown {M : Nat} {row : Option Nat} {w w' : World} (h : w.grownBy w' row) : Fr M row w w' := ⟨h.os, h.tape, h.output, h.size, fun k hk _ hr => h.block k hk hr⟩
/-- A step more in the way: its row is the same, or a new one. -/
theorem Fr.step {M : Nat} {row row' : Option Nat} {u v w : World} (h : Fr M row u v) (h' : Fr M row' v w) (hr : row' = row ∨ ∃ b, row' = some b ∧ u.heap.size ≤ b) : Fr M row u w :=
  ⟨h'.os.trans h.os, h'.tape.trans h.tape, h'.output.trans h.output, Nat.le_trans h.size h'.size, fun k hk hM hk' => (h'.block k (Nat.lt_of_lt_of_le hk h.size) hM (by
    rcases hr with rfl | ⟨b, rfl, hb⟩
    · exact hk'
    · intro e; injection e with e; omega)).trans (h.block k hk hM hk')⟩
theorem Fr.cell {M : Nat} {row : Option Nat} {w w' : World} (h : Fr M row w w') {k i : Nat} (hk : k < w.heap.size) (hM : k ≠ M) (hr : some k ≠ row) : w'.cell? ⟨k, i, none⟩ = w.cell? ⟨k, i, none⟩ := World.cell?_of_block (h.block k hk hM hr)
theorem Fr.rd {M : Nat} {row : Option Nat} {w w' : World} (h : Fr M row w w') {A : Option Addr} {n : Nat} {bs : List UInt8} (hr : Rd w w.heap.size A n bs) (hne : ∀ b o, A = some ⟨b, o, none⟩ → b ≠ M ∧ some b ≠ row) : Rd w' w'.heap.size A n bs := by
  refine ⟨hr.1, fun hn => ?_⟩
  obtain ⟨b, o, e, hb, hc⟩ := hr.2 hn
  exact ⟨b, o, e, Nat.lt_of_lt_of_le hb h.size, fun j u hu => (h.cell hb (hne b o e).1 (hne b o e).2).trans (hc j u hu)⟩

def NVals (ms : List (List UInt8 × Value)) : Prop := ∀ p ∈ ms, ∃ X : Array Value, p.2 = .agg X ∧ X.size = 68 ∧ X.all (·.oneCell') = true
/-- A value is the node of tree s; its bytes lie in blocks from B on. -/
def NodeV (w : World) (B : Nat) (s : T) (v : Value) : Prop :=
  ∃ cs A n c A' n' c', v = .agg cs ∧ Told w B s cs A n c A' n' c'
def SavePost (pb M base : Nat) (wv : Value) (n : Nat) (way : List Bool) (s : T) (ms : List (List UInt8 × Value)) (w : World) (e : Ending) (w' : World) : Prop :=
  e = .returned undef ∧ ∃ ms', BAt w' pb M ms' ∧ NVals ms' ∧ (∀ k v, MAt.look ms k = some v → MAt.look ms' k = some v) ∧ (∃ v, MAt.look ms' s.sum = some v ∧ (MAt.look ms s.sum = none → NodeV w' w.heap.size s v)) ∧
    w'.ownsRow base 4 1 wv n (way.map Value.bool) ∧ Fr M wv.ownBlock w w'
theorem look_some {ms : List (List UInt8 × Value)} (h : NVals ms) {k : List UInt8} {v : Value} (hv : MAt.look ms k = some v) : ∃ X : Array Value, v = .agg X ∧ X.size = 68 ∧ X.all (·.oneCell') = true := by
  unfold MAt.look at hv
  obtain ⟨p, hp, rfl⟩ := Option.map_eq_some_iff.1 hv
  exact h p (List.mem_of_find?_eq_some hp)

theorem own_below' {w w' : World} {base size n : Nat} {e : TypeId} {v : Value} {xs : List Value} (h : w.ownsRow base e size v n xs) (hb : Below w.heap.size w w') : w'.ownsRow base e size v n xs :=
  h.kept (row := none) ⟨hb.os, hb.tape, hb.output, hb.size, fun i hi _ => hb.block i hi⟩ (by cases v.ownBlock <;> simp)
theorem told_fr {M : Nat} {row : Option Nat} {w w' : World} {B : Nat} {s : T} {cs : Array Value} {A A' : Option Addr} {n c n' c' : Nat} (h : Told w B s cs A n c A' n' c') (hf : Fr M row w w') (hM : M < B) (hr : ∀ r, row = some r → r < B) : Told w' B s cs A n c A' n' c' :=
  ⟨h.eq, hf.rd h.key (fun b o e => by have := h.knew b o e; exact ⟨by omega, fun e2 => by have := hr b e2.symm; omega⟩), h.knc, h.kle, hf.rd h.val (fun b o e => by have := h.vnew b o e; exact ⟨by omega, fun e2 => by have := hr b e2.symm; omega⟩), h.vnc, h.vle, h.knew, h.vnew⟩
theorem told_at {w : World} {B : Nat} {s : T} {xs : Array Value} {A A' : Option Addr} {n c n' c' g : Nat} {ty : TypeId} (h : Told w B s xs A n c A' n' c') (hw : Whole w g ty xs) :
    w.cell? ⟨g, 2, none⟩ = some (.int .i64 s.h) ∧ w.rangeAt g 4 (s.lsum.map V8) ∧ w.rangeAt g 36 (s.rsum.map V8) := by
  rw [h.eq] at hw
  obtain ⟨_, _, h2, _⟩ := abox hw
  exact ⟨h2, acells_lrange hw, acells_rrange hw (lsum32 _)⟩
theorem told_more {w : World} {B B' : Nat} {s : T} {cs : Array Value} {A A' : Option Addr} {n c n' c' : Nat} (h : Told w B s cs A n c A' n' c') (hB : B' ≤ B) : Told w B' s cs A n c A' n' c' :=
  ⟨h.eq, h.key, h.knc, h.kle, h.val, h.vnc, h.vle, fun b o e => Nat.le_trans hB (h.knew b o e), fun b o e => Nat.le_trans hB (h.vnew b o e)⟩
theorem row_fr {w w' : World} {base n : Nat} {v : Value} {xs : List Value} (h : w.ownsRow base 4 1 v n xs) (hk : ∀ g, v.ownBlock = some g → w'.heap[g]? = w.heap[g]?) : w'.ownsRow base 4 1 v n xs := by
  refine ⟨h.1, ?_⟩
  rcases h.2 with e | ⟨g, cap, cur, e, h2, h3, h4, h5, h6, h7⟩
  · exact .inl e
  · exact .inr ⟨g, cap, cur, e, h2, (hk g (by rw [e]; rfl)).trans h3, h4, h5, h6, h7⟩
theorem child_back {M base n c c7 : Nat} {W W7 : Option Addr} {xs : List Value} {x : Value} {w6 u7 x7 y7 : World} (hb7 : Below w6.heap.size w6 u7) (hgr : u7.grownBy x7 (Value.slice W n c).ownBlock)
    (hat : Value.slice W7 (n + 1) c7 = .slice W (n + 1) c ∨ ∃ b, (Value.slice W7 (n + 1) c7).ownBlock = some b ∧ u7.heap.size ≤ b ∧ x7.ownsRow base 4 1 (.slice W n c) n xs)
    (hfr : Fr M (Value.slice W7 (n + 1) c7).ownBlock x7 y7) (hown : y7.ownsRow base 4 1 (.slice W7 (n + 1) c7) (n + 1) (xs ++ [x])) (hM : M < base)
    (hr : ∀ r, (Value.slice W n c).ownBlock = some r → base ≤ r ∧ r < w6.heap.size) : Fr M (Value.slice W n c).ownBlock w6 y7 ∧ y7.ownsRow base 4 1 (.slice W n c) n xs := by
  have h1 : Fr M (Value.slice W n c).ownBlock w6 x7 := (Fr.of_below hb7).trans (Fr.of_grown hgr)
  have hs := hb7.size
  rcases hat with e | ⟨b, e, hb, hrow⟩
  · injection e with e1 _ e3
    subst e1 e3
    exact ⟨h1.step hfr (.inl (by cases W7 <;> rfl)), own_front hown⟩
  · refine ⟨h1.step hfr (.inr ⟨b, e, Nat.le_trans hs hb⟩), row_fr hrow (fun g hg => ?_)⟩
    have := hr g hg
    exact hfr.block g (Nat.lt_of_lt_of_le this.2 h1.size) (by omega) (by rw [e]; intro e2; injection e2 with e2; omega)
theorem tin_fr {M base g : Nat} {row : Option Nat} {w w' : World} {o : Option T} (h : TIn (fun b => b ≠ M) w base o g) (hf : Fr M row w w') (hb : base ≤ w.heap.size) (hr : ∀ r, row = some r → base ≤ r) : TIn (fun b => b ≠ M) w' base o g :=
  h.keepG (fun b hlt hG => hf.block b (Nat.lt_of_lt_of_le hlt hb) hG (fun e => by have := hr b e.symm; omega))
theorem range_fr {M g o : Nat} {row : Option Nat} {w w' : World} {vs : List Value} (h : w.rangeAt g o vs) (hf : Fr M row w w') (hg : g < w.heap.size) (hM : g ≠ M) (hr : some g ≠ row) : w'.rangeAt g o vs :=
  fun j v hv => (hf.cell hg hM hr).trans (h j v hv)
theorem bat_grown {pb M : Nat} {row : Option Nat} {w w' : World} {ms : List (List UInt8 × Value)} (h : BAt w pb M ms) (hg : w.grownBy w' row) (h1 : some pb ≠ row) (h2 : some M ≠ row) : BAt w' pb M ms :=
  ⟨(hg.block pb h.1.lt h1).trans h.1, h.2.1.block (hg.block M h.2.1.lt h2), h.2.2⟩
def SaveAt (pb M base g0t : Nat) (t s : T) : Prop := ∀ (way : List Bool) (W : Option Addr) (n c : Nat) (ms : List (List UInt8 × Value)) (w : World),
    BAt w pb M ms → NVals ms → base ≤ w.heap.size → TIn (fun b => b ≠ M) w base (some t) g0t → oat (some t) way = some s → w.ownsRow base 4 1 (.slice W n c) n (way.map Value.bool) →
    Calls Tryd.prog 48 #[ptr (some pb), .agg (Sh.bcells s.sum), ptr (some g0t), .slice W n c] w (SavePost pb M base (.slice W n c) n way s ms w)
theorem look_case {M : Nat} {ms : List (List UInt8 × Value)} (hv : NVals ms) (h : List UInt8) (hl : h.length = 32) : ∃ (X : Array Value) (is : Bool), X.size = 68 ∧ X.all (·.oneCell') = true ∧
    (∀ u, MAt u M ms → (Instr.lookup 94 (.map (some M)) (.agg (Sh.bcells h)) true).run Tryd.prog u = .ok (.tuple #[.agg X, .bool is]) u) ∧ (is = true → MAt.look ms h = some (.agg X)) ∧ (is = false → MAt.look ms h = none) := by
  cases hk : MAt.look ms h with
  | none => exact ⟨z64, false, z64_size, z64_one, fun u hu => lookup_absent hu h hl hk (zero64 u), fun e => (by cases e), fun _ => rfl⟩
  | some v =>
    obtain ⟨X, rfl, h1, h2⟩ := look_some hv hk
    exact ⟨X, true, h1, h2, fun u hu => lookup_there hu h hl hk, fun _ => rfl, fun e => (by cases e)⟩

set_option maxRecDepth 100000 in
set_option maxHeartbeats 600000 in
theorem save_core (pb M base g0t : Nat) (t : T) (hpbb : pb < base) (hMb : M < base) (htn : t.n ≤ 1000) (s : T) (hIH : ∀ l r, s = T.node l r → SaveAt pb M base g0t t l ∧ SaveAt pb M base g0t t r) : SaveAt pb M base g0t t s := by
  intro way W n c ms w hB hV hbase hT hoat hrow
  have hdeep := oat_deep t way s hoat
  have hnw : way.length = n := by have := hrow.1; simpa using this
  obtain ⟨h, hh⟩ : ∃ h, s.sum = h := ⟨_, rfl⟩
  have hl : h.length = 32 := by rw [← hh]; exact sum32 s
  obtain ⟨X, is, hX, hone, hrun, hyes, hno⟩ := look_case (M := M) hV h hl
  have hb := (Below.refl w.heap.size w).alloc (Nat.le_refl _) (.cells (Sh.bcells h) 29)
  have hw := Whole.made w 29 (Sh.bcells h)
  have cb : (w.alloc (.cells (Sh.bcells h) 29)).cell? ⟨pb, 0, none⟩ = some (.map (some M)) := (hb.cell (p := ⟨pb, 0, none⟩) hB.1.lt).trans (hB.1.at_ (i := 0) rfl)
  have hpb : pb < (w.alloc (.cells (Sh.bcells h) 29)).heap.size := Nat.lt_of_lt_of_le hB.1.lt hb.size
  have hg0 : w.heap.size < (w.alloc (.cells (Sh.bcells h) 29)).heap.size := by simp
  have HRG : Hid ((w.alloc (.cells (Sh.bcells h) 29)).rangeAt w.heap.size 0 (h.map V8)) := Lib.hid hw.range
  have HRUN := Lib.hid (fun (u : World) (hbu : Below (w.alloc (.cells (Sh.bcells h) 29)).heap.size (w.alloc (.cells (Sh.bcells h) 29)) u) => hrun u ((hB.below hb).below hbu).2.1)
  have HI : Hid ((Tryd.prog.info? 29).map (·.size) = some (h.map V8).length) := Lib.hid (by rw [List.length_map, hl]; exact info49)
  have HB := Lib.hid hb
  have HBB := Lib.hid (And.intro hB hV)
  have HT := Lib.hid (And.intro hT (And.intro hoat hrow))
  have HYN := Lib.hid (And.intro hyes hno)
  have HIH := Lib.hid hIH
  have HH := Lib.hid (And.intro hh hl)
  rw [hh]
  clear hb hw hrun hB hV hT hoat hrow hyes hno hIH hh hl
  change Hid (∀ (u : World), Below (w.alloc (.cells (Sh.bcells h) 29)).heap.size (w.alloc (.cells (Sh.bcells h) 29)) u → (Instr.lookup 94 (.map (some M)) (.agg (h.map V8).toArray) true).run Tryd.prog u = .ok (.tuple #[.agg X, .bool is]) u) at HRUN
  obtain ⟨g0, hgg⟩ : ∃ g, w.heap.size = g := ⟨_, rfl⟩
  rw [hgg] at HRG hg0 HB hbase
  have HG := Lib.hid hgg
  rw [ptr_some, ptr_some]
  go_enter Tryd.func48, Tryd.ntmps48
  go_upto_region 1 with (fail)
  generalize w.alloc (.cells (Sh.bcells h) 29) = w1 at *
  clear hgg
  have hS0 : w1.drew.cell? ⟨pb, 0, none⟩ = some (.map (some M)) ∧ w1.drew.rangeAt g0 0 (h.map V8) ∧ (Instr.lookup 94 (.map (some M)) (.agg (h.map V8).toArray) true).run Tryd.prog w1.drew = .ok (.tuple #[.agg X, .bool is]) w1.drew := ⟨cb, HRG.out, HRUN.out w1.drew (Below.refl _ _).drew⟩
  refine wp_region_held_drew (S := fun u => u.cell? ⟨pb, 0, none⟩ = some (.map (some M)) ∧ u.rangeAt g0 0 (h.map V8) ∧ (Instr.lookup 94 (.map (some M)) (.agg (h.map V8).toArray) true).run Tryd.prog u = .ok (.tuple #[.agg X, .bool is]) u) (by kernel_rfl) hS0 (fun hHeld => ?_)
  refine wpAnyH_take (i := 0) (oi := { dst := some 13, op := Op.move (Operand.tmp 0), type := 50, pos := "nodes.go:30", after := #[], guard := none }) (v := ?_) rfl (by kernel_rfl) (by kernel_rfl) (by kernel_rfl) (fun _ _ _ h => h) (Or.inl ⟨by rfl, ?_⟩) (by assumption) ?_
  rotate_left
  · first | (intro w hSw; (try dsimp only at hSw); go_simp; done) | (intro w hSw; (try dsimp only at hSw); go_simp; with_reducible rfl)
  simp only [Act.put, List.setIfInBounds_toArray, List.set_cons_zero, List.set_cons_succ]
  refine wpAnyH_take (i := 1) (oi := { dst := some 14, op := Op.nilCheck (Operand.tmp 13), type := 0, pos := "nodes.go:30", after := #[{ on := 0, ground := Ground.data }], guard := none }) (v := ?_) rfl (by kernel_rfl) (by kernel_rfl) (by kernel_rfl) (fun _ _ _ h => h) (Or.inl ⟨by rfl, ?_⟩) (by assumption) ?_
  rotate_left
  · first | (intro w hSw; (try dsimp only at hSw); go_simp; done) | (intro w hSw; (try dsimp only at hSw); go_simp; with_reducible rfl)
  simp only [Act.put, List.setIfInBounds_toArray, List.set_cons_zero, List.set_cons_succ]
  refine wpAnyH_take (i := 2) (oi := { dst := some 15, op := Op.fieldAddr 96 (Operand.tmp 14) 0, type := 0, pos := "nodes.go:30", after := #[{ on := 1, ground := Ground.data }], guard := none }) (v := ?_) rfl (by kernel_rfl) (by kernel_rfl) (by kernel_rfl) (fun _ _ _ h => h) (Or.inl ⟨by rfl, ?_⟩) (by assumption) ?_
  rotate_left
  · first | (intro w hSw; (try dsimp only at hSw); go_simp; done) | (intro w hSw; (try dsimp only at hSw); go_simp; with_reducible rfl)
  simp only [Act.put, List.setIfInBounds_toArray, List.set_cons_zero, List.set_cons_succ]
  refine wpAnyH_take (i := 3) (oi := { dst := some 16, op := Op.load 94 (Operand.tmp 15), type := 94, pos := "nodes.go:30", after := #[{ on := 2, ground := Ground.data }], guard := none }) (v := ?_) rfl (by kernel_rfl) (by kernel_rfl) (by kernel_rfl) (fun _ _ _ h => h) (Or.inl ⟨by rfl, ?_⟩) (by assumption) ?_
  rotate_left
  · first | (intro w hSw; (try dsimp only at hSw); go_simp; done) | (intro w hSw; (try dsimp only at hSw); go_simp; with_reducible rfl)
  simp only [Act.put, List.setIfInBounds_toArray, List.set_cons_zero, List.set_cons_succ]
  refine wpAnyH_take (i := 4) (oi := { dst := some 17, op := Op.load 29 (Operand.tmp 5), type := 29, pos := "nodes.go:30", after := #[], guard := none }) (v := .agg (h.map V8).toArray) rfl (by kernel_rfl) (by kernel_rfl) (by kernel_rfl) (fun _ _ _ h => h) (yieldsIf_load_mid (by rfl) 29 (.tmp 5) rfl g0 0 rfl (h.map V8) _ (fun _ h => h.2.1) Tryd.underlying29 rfl HI.out) (by assumption) ?_
  simp only [Act.put, List.setIfInBounds_toArray, List.set_cons_zero, List.set_cons_succ]
  refine wpAnyH_take (i := 5) (oi := { dst := some 18, op := Op.lookup 94 (Operand.tmp 16) (Operand.tmp 17) true, type := 74, pos := "nodes.go:30", after := #[{ on := 3, ground := Ground.data }, { on := 4, ground := Ground.data }], guard := none }) (v := ?_) rfl (by kernel_rfl) (by kernel_rfl) (by kernel_rfl) (fun _ _ _ h => h) (Or.inl ⟨by rfl, ?_⟩) (by assumption) ?_
  rotate_left
  · first | (intro w hSw; (try dsimp only at hSw); go_simp; done) | (intro w hSw; (try dsimp only at hSw); go_simp; with_reducible rfl)
  simp only [Act.put, List.setIfInBounds_toArray, List.set_cons_zero, List.set_cons_succ]
  refine wpAnyH_take (i := 6) (oi := { dst := some 12, op := Op.move (Operand.tmp 18), type := 74, pos := "nodes.go:30", after := #[{ on := 5, ground := Ground.data }], guard := none }) (v := ?_) rfl (by kernel_rfl) (by kernel_rfl) (by kernel_rfl) (fun _ _ _ h => h) (Or.inl ⟨by rfl, ?_⟩) (by assumption) ?_
  rotate_left
  · first | (intro w hSw; (try dsimp only at hSw); go_simp; done) | (intro w hSw; (try dsimp only at hSw); go_simp; with_reducible rfl)
  simp only [Act.put, List.setIfInBounds_toArray, List.set_cons_zero, List.set_cons_succ]
  refine wpAnyH_take (i := 7) (oi := { dst := some 19, op := Op.extract (Operand.tmp 12) 0, type := 47, pos := "nodes.go:30", after := #[{ on := 6, ground := Ground.data }], guard := none }) (v := ?_) rfl (by kernel_rfl) (by kernel_rfl) (by kernel_rfl) (fun _ _ _ h => h) (Or.inl ⟨by rfl, ?_⟩) (by assumption) ?_
  rotate_left
  · first | (intro w hSw; (try dsimp only at hSw); go_simp; done) | (intro w hSw; (try dsimp only at hSw); go_simp; with_reducible rfl)
  simp only [Act.put, List.setIfInBounds_toArray, List.set_cons_zero, List.set_cons_succ]
  refine wpAnyH_take (i := 8) (oi := { dst := some 20, op := Op.extract (Operand.tmp 12) 1, type := 4, pos := "nodes.go:30", after := #[{ on := 6, ground := Ground.data }, { on := 10, ground := Ground.gcOnly Departure.lateStores }], guard := none }) (v := ?_) rfl (by kernel_rfl) (by kernel_rfl) (by kernel_rfl) (fun _ _ _ h => h) (Or.inl ⟨by rfl, ?_⟩) (by assumption) ?_
  rotate_left
  · first | (intro w hSw; (try dsimp only at hSw); go_simp; done) | (intro w hSw; (try dsimp only at hSw); go_simp; with_reducible rfl)
  simp only [Act.put, List.setIfInBounds_toArray, List.set_cons_zero, List.set_cons_succ]
  have hz64 := zero64
  refine wpAnyH_ready (rs := [9]) (by kernel_rfl) (by simp) ?_
  refine AllReadyH.cons (o := { dst := some 8, op := Op.alloc 47, type := 0, pos := "nodes.go:30", after := #[], guard := none }) rfl (fun K hK => ?_) AllReadyH.nil
  go_simp
  have hb2 : Below w1.heap.size w1 (w1.alloc (.cells z64 47)).drew := ((Below.refl _ _).alloc (Nat.le_refl _) _).drew
  have hw2 : Whole (w1.alloc (.cells z64 47)).drew w1.heap.size 47 z64 := Whole.made w1 47 z64
  refine hK.out _ _ ⟨(hb2.cell (p := ⟨pb, 0, none⟩) hpb).trans cb, range_keep HRG.out hb2 hg0, HRUN.out _ hb2⟩ (fun _ => ?_)
  clear hK K hHeld hS0 hz64
  refine wpAnyH_ready (rs := [10]) (by kernel_rfl) (by simp) ?_
  refine AllReadyH.cons (o := { dst := none, op := Op.store 47 (Operand.tmp 8) (Operand.tmp 19), type := 0, pos := "nodes.go:30", after := #[{ on := 9, ground := Ground.data }, { on := 7, ground := Ground.data }, { on := 0, ground := Ground.phase }, { on := 1, ground := Ground.phase }, { on := 2, ground := Ground.phase }, { on := 3, ground := Ground.phase }, { on := 4, ground := Ground.phase }, { on := 5, ground := Ground.phase }, { on := 6, ground := Ground.phase }, { on := 7, ground := Ground.phase }, { on := 8, ground := Ground.textOnly Departure.lateStores }, { on := 9, ground := Ground.phase }], guard := none }) rfl (fun K hK => ?_) AllReadyH.nil
  refine Eq.mpr (if_pos (by rfl)) ?_
  refine wp_store_mid 47 (.tmp 8) (.tmp 19) rfl w1.heap.size 0 X rfl rfl ?_ ?_ hone ?_
  · rw [hX]; exact hw2.there_
  · rw [hX]; exact info64
  have hw3 := hw2.setAll (vs := X) (by rw [hX]; rfl)
  have hb3 : Below w1.heap.size w1 ((w1.alloc (.cells z64 47)).drew.setCells w1.heap.size 0 X.toList) := below_setCells w1 w1.heap.size _ 0 hb2 (Nat.le_refl _)
  refine hK.out _ _ ⟨(hb3.cell (p := ⟨pb, 0, none⟩) hpb).trans cb, range_keep HRG.out hb3 hg0, HRUN.out _ hb3⟩ (fun _ => ?_)
  clear hK K hb2 hw2
  have HW3 : Hid (Whole ((w1.alloc (.cells z64 47)).drew.setCells w1.heap.size 0 X.toList) w1.heap.size 47 X) := Lib.hid hw3
  have HB3 := Lib.hid hb3
  clear hw3 hb3
  generalize (w1.alloc (.cells z64 47)).drew.setCells w1.heap.size 0 X.toList = w3 at *
  refine wpAnyH_take (i := 11) (oi := { dst := some 9, op := Op.assign (Operand.tmp 20), type := 4, pos := "nodes.go:30", after := #[{ on := 8, ground := Ground.data }, { on := 10, ground := Ground.chain }, { on := 0, ground := Ground.phase }, { on := 1, ground := Ground.phase }, { on := 2, ground := Ground.phase }, { on := 3, ground := Ground.phase }, { on := 4, ground := Ground.phase }, { on := 5, ground := Ground.phase }, { on := 6, ground := Ground.phase }, { on := 7, ground := Ground.phase }, { on := 8, ground := Ground.phase }, { on := 9, ground := Ground.phase }, { on := 10, ground := Ground.phase }], guard := none }) (v := ?_) rfl (by kernel_rfl) (by kernel_rfl) (by kernel_rfl) (fun _ _ _ h => h) (Or.inl ⟨by rfl, ?_⟩) (by assumption) ?_
  rotate_left
  · first | (intro w hSw; (try dsimp only at hSw); go_simp; done) | (intro w hSw; (try dsimp only at hSw); go_simp; with_reducible rfl)
  simp only [Act.put, List.setIfInBounds_toArray, List.set_cons_zero, List.set_cons_succ]
  refine wpAnyH_done (by kernel_rfl) ?_ _
  have hb03 := HB.out.trans (HB3.out.mono (Nat.le_of_lt hg0))
  cases is with
  | true =>
    have hpost : SavePost pb M base (.slice W n c) n way s ms w (.returned undef) w3 := by
      have hbx : Below w.heap.size w w3 := by rw [HG.out]; exact hb03
      refine ⟨rfl, ms, HBB.out.1.below hbx, HBB.out.2, fun _ _ h => h, ⟨.agg X, ?_, fun h => ?_⟩, own_below' HT.out.2.2 hbx, Fr.of_below hbx⟩
      · rw [HH.out.1]; exact HYN.out.1 rfl
      · rw [HH.out.1, HYN.out.1 rfl] at h; cases h
    have HPOST := Lib.hid hpost
    clear hpost hb03 HRUN HRG HW3 HB3 cb
    go_wp2_with fail
    refine bodyPost_ret (results_none rfl _ _ _) rfl ?_
    exact HPOST.out
  | false =>
    have hlook := HYN.out.2 rfl
    have hbx : Below w.heap.size w w3 := by rw [HG.out]; exact hb03
    have hw3s : g0 ≤ w3.heap.size := by have := hb03.size; rw [HG.out] at this; exact this
    have hT3 := (HT.out.1.below hbx (by rw [HG.out]; exact hbase)).more (B' := w3.heap.size) (by omega)
    have hrow3 := own_below' HT.out.2.2 hbx
    have HWY := Lib.hid (way_any (some (some t)) (some g0t) W n c way w3 ⟨g0t, rfl, hT3⟩ (RdV.of_own hrow3) (by omega))
    rw [ptr_some] at HWY
    have hcb3 := (HB3.out.cell (p := ⟨pb, 0, none⟩) hpb).trans cb
    have hrg3 := range_keep HRG.out HB3.out hg0
    have HB03 := Lib.hid hbx
    have H3 := Lib.hid (And.intro hcb3 hrg3)
    have hpb3 : pb < w3.heap.size := by omega
    have hg03 : g0 < w3.heap.size := by have := HB3.out.size; omega
    clear HRUN HRG HW3 HB3 cb hb03 hT3 hrow3 hcb3 hrg3 hbx hpb hg0
    go_wp2_with fail
    refine HWY.out.mono ?_
    rintro e w4 hpost
    rcases hpost with ⟨hn0, _⟩ | ⟨s', xs, A, na, ca, A', na', ca', hs', rfl, hTo, hb4⟩
    · exact absurd hn0 (by rw [show oat (topOf (some (some t))) way = some s from HT.out.2.1]; intro h; cases h)
    obtain rfl : s = s' := by rw [show oat (topOf (some (some t))) way = some s from HT.out.2.1] at hs'; injection hs'
    have hcs : xs.size = 68 := by rw [hTo.eq, List.size_toArray, acells_len _ _ _ _ _ _ (lsum32 _) (rsum32 _)]
    have honx : xs.all (·.oneCell') = true := by rw [hTo.eq]; exact Tl.acells_one ..
    have HTo := Lib.hid hTo
    clear HWY hTo hs'
    simp only []
    have hz64 := zero64
    iterate 13 go_step
    clear hz64
    have hwm := Whole.made w4 47 z64
    refine wpList_store_mid rfl 47 (.tmp 10) (.tmp 26) rfl w4.heap.size 0 xs rfl rfl ?_ ?_ honx ?_
    · rw [hcs]; exact hwm.there_
    · rw [hcs]; exact info64
    have hws := hwm.setAll (vs := xs) (by rw [hcs]; rfl)
    have hbs : Below w4.heap.size w4 ((w4.alloc (.cells z64 47)).setCells w4.heap.size 0 xs.toList) := below_setCells w4 w4.heap.size _ 0 ((Below.refl _ _).alloc (Nat.le_refl _) _) (Nat.le_refl _)
    generalize (w4.alloc (.cells z64 47)).setCells w4.heap.size 0 xs.toList = w5 at *
    have hb35 : Below w3.heap.size w3 w5 := hb4.trans (hbs.mono hb4.size)
    have hTo5 := HTo.out.below hbs
    obtain ⟨g5, hg5⟩ : ∃ g, w4.heap.size = g := ⟨_, rfl⟩
    rw [hg5] at hws ⊢
    have hg5s : g5 < w5.heap.size := hws.lt
    have hg35 : w3.heap.size ≤ g5 := by rw [← hg5]; exact hb4.size
    have c5 := (hb35.cell (p := ⟨pb, 0, none⟩) hpb3).trans H3.out.1
    have r5 := range_keep H3.out.2 hb35 hg03
    have x5 := hws.range
    have HB5 := Lib.hid (HB03.out.trans (hb35.mono (by rw [HG.out]; exact hw3s)))
    have HTo5 := Lib.hid hTo5
    have HW5 := Lib.hid hws
    have hm5 : MAt w5 M ms := (HBB.out.1.below HB5.out).2.1
    have HI35 : Hid ((Tryd.prog.info? 47).map (·.size) = some xs.toList.length) := Lib.hid (by rw [Array.length_toList, hcs]; exact info64)
    have hs35 : w3.heap.size ≤ w5.heap.size := hb35.size
    clear hwm hbs hb4 hb35 hTo5 hws HTo H3 hg5
    go_upto_region 5 with (fail)
    have hS0 : w5.drew.cell? ⟨pb, 0, none⟩ = some (.map (some M)) ∧ w5.drew.rangeAt g0 0 (h.map V8) ∧ w5.drew.rangeAt g5 0 xs.toList := ⟨c5, r5, x5⟩
    refine wp_region_held_drew (S := fun u => u.cell? ⟨pb, 0, none⟩ = some (.map (some M)) ∧ u.rangeAt g0 0 (h.map V8) ∧ u.rangeAt g5 0 xs.toList) (by kernel_rfl) hS0 (fun hHeld => ?_)
    refine wpAnyH_take (i := 0) (oi := { dst := some 30, op := Op.move (Operand.tmp 0), type := 50, pos := "nodes.go:37", after := #[], guard := none }) (v := ?_) rfl (by kernel_rfl) (by kernel_rfl) (by kernel_rfl) (fun _ _ _ h => h) (Or.inl ⟨by rfl, ?_⟩) (by assumption) ?_
    rotate_left
    · first | (intro w hSw; (try dsimp only at hSw); go_simp; done) | (intro w hSw; (try dsimp only at hSw); go_simp; with_reducible rfl)
    simp only [Act.put, List.setIfInBounds_toArray, List.set_cons_zero, List.set_cons_succ]
    refine wpAnyH_take (i := 1) (oi := { dst := some 31, op := Op.nilCheck (Operand.tmp 30), type := 0, pos := "nodes.go:37", after := #[{ on := 0, ground := Ground.data }], guard := none }) (v := ?_) rfl (by kernel_rfl) (by kernel_rfl) (by kernel_rfl) (fun _ _ _ h => h) (Or.inl ⟨by rfl, ?_⟩) (by assumption) ?_
    rotate_left
    · first | (intro w hSw; (try dsimp only at hSw); go_simp; done) | (intro w hSw; (try dsimp only at hSw); go_simp; with_reducible rfl)
    simp only [Act.put, List.setIfInBounds_toArray, List.set_cons_zero, List.set_cons_succ]
    refine wpAnyH_take (i := 2) (oi := { dst := some 32, op := Op.fieldAddr 96 (Operand.tmp 31) 0, type := 0, pos := "nodes.go:37", after := #[{ on := 1, ground := Ground.data }], guard := none }) (v := ?_) rfl (by kernel_rfl) (by kernel_rfl) (by kernel_rfl) (fun _ _ _ h => h) (Or.inl ⟨by rfl, ?_⟩) (by assumption) ?_
    rotate_left
    · first | (intro w hSw; (try dsimp only at hSw); go_simp; done) | (intro w hSw; (try dsimp only at hSw); go_simp; with_reducible rfl)
    simp only [Act.put, List.setIfInBounds_toArray, List.set_cons_zero, List.set_cons_succ]
    refine wpAnyH_take (i := 3) (oi := { dst := some 33, op := Op.load 94 (Operand.tmp 32), type := 94, pos := "nodes.go:37", after := #[{ on := 2, ground := Ground.data }], guard := none }) (v := ?_) rfl (by kernel_rfl) (by kernel_rfl) (by kernel_rfl) (fun _ _ _ h => h) (Or.inl ⟨by rfl, ?_⟩) (by assumption) ?_
    rotate_left
    · first | (intro w hSw; (try dsimp only at hSw); go_simp; done) | (intro w hSw; (try dsimp only at hSw); go_simp; with_reducible rfl)
    simp only [Act.put, List.setIfInBounds_toArray, List.set_cons_zero, List.set_cons_succ]
    refine wpAnyH_take (i := 4) (oi := { dst := some 34, op := Op.load 29 (Operand.tmp 5), type := 29, pos := "nodes.go:37", after := #[], guard := none }) (v := .agg (h.map V8).toArray) rfl (by kernel_rfl) (by kernel_rfl) (by kernel_rfl) (fun _ _ _ h => h) (yieldsIf_load_mid (by rfl) 29 (.tmp 5) rfl g0 0 rfl (h.map V8) _ (fun _ h => h.2.1) Tryd.underlying29 rfl HI.out) (by assumption) ?_
    simp only [Act.put, List.setIfInBounds_toArray, List.set_cons_zero, List.set_cons_succ]
    refine wpAnyH_take (i := 5) (oi := { dst := some 35, op := Op.load 47 (Operand.tmp 10), type := 47, pos := "nodes.go:37", after := #[], guard := none }) (v := .agg xs) rfl (by kernel_rfl) (by kernel_rfl) (by kernel_rfl) (fun _ _ _ h => h) (yieldsIf_load_mid (by rfl) 47 (.tmp 10) rfl g5 0 rfl xs.toList _ (fun _ h => h.2.2) Tryd.underlying47 rfl HI35.out) (by assumption) ?_
    simp only [Act.put, List.setIfInBounds_toArray, List.set_cons_zero, List.set_cons_succ]
    refine wpAnyH_ready (rs := [6]) (by kernel_rfl) (by simp) ?_
    refine AllReadyH.cons (o := { dst := none, op := Op.mapUpdate 94 (Operand.tmp 33) (Operand.tmp 34) (Operand.tmp 35), type := 0, pos := "nodes.go:37", after := #[{ on := 3, ground := Ground.data }, { on := 4, ground := Ground.data }, { on := 5, ground := Ground.data }, { on := 0, ground := Ground.phase }, { on := 1, ground := Ground.phase }, { on := 2, ground := Ground.phase }, { on := 3, ground := Ground.phase }, { on := 4, ground := Ground.phase }, { on := 5, ground := Ground.phase }], guard := none }) rfl (fun K hK => ?_) AllReadyH.nil
    obtain ⟨w6, hrun6, hM6, hk6, hz6, ho6, ht6, hu6⟩ := update_new (w := w5.drew) (show MAt w5.drew M ms from hm5) h HH.out.2 hlook (.agg xs)
    refine Eq.mpr (if_pos (by rfl)) ?_
    have hrun7 : (Instr.mapUpdate 94 (.map (some M)) (.agg (h.map V8).toArray) (.agg xs)).run Tryd.prog w5.drew = .ok () w6 := hrun6
    have hgM : g0 ≠ M := by omega
    have hpM : pb ≠ M := HBB.out.1.2.2
    have hg5M : g5 ≠ M := by omega
    have hrow' : ∀ r, (Value.slice W n c).ownBlock = some r → base ≤ r ∧ r < g0 := fun r hr => by have := HT.out.2.2.lt r hr; have := HG.out; omega
    have hfr6 : Fr M (Value.slice W n c).ownBlock w5 w6 := ⟨ho6, ht6, hu6, by rw [hz6]; exact Nat.le_refl _, fun k hk hM _ => hk6 k hM⟩
    have hS6 : w6.cell? ⟨pb, 0, none⟩ = some (.map (some M)) ∧ w6.rangeAt g0 0 (h.map V8) ∧ w6.rangeAt g5 0 xs.toList :=
      ⟨(World.cell?_of_block (hk6 pb hpM)).trans c5, fun j v hv => (World.cell?_of_block (hk6 g0 hgM)).trans (r5 j v hv), fun j v hv => (World.cell?_of_block (hk6 g5 hg5M)).trans (x5 j v hv)⟩
    unfold Oper.wp execOp
    go_simp
    refine hK.out _ _ hS6 (fun _ => ?_)
    clear hK K hHeld hS0 hrun6 hrun7
    refine wpAnyH_done (by kernel_rfl) ?_ _
    have hms1 : ∀ k v, MAt.look ms k = some v → MAt.look (ms ++ [(h, Value.agg xs)]) k = some v := fun k v hv => by
      unfold MAt.look at hv ⊢
      obtain ⟨p, hp, rfl⟩ := Option.map_eq_some_iff.1 hv
      rw [List.find?_append, hp]
      rfl
    have hms2 : MAt.look (ms ++ [(h, Value.agg xs)]) h = some (.agg xs) := by
      have h1 : ms.find? (fun p => p.1 == h) = none := by
        unfold MAt.look at hlook
        exact Option.map_eq_none_iff.1 hlook
      unfold MAt.look
      rw [List.find?_append, h1]
      simp
    have hnv1 : NVals (ms ++ [(h, Value.agg xs)]) := by
      intro p hp
      simp only [List.mem_append, List.mem_singleton] at hp
      rcases hp with hp | rfl
      · exact HBB.out.2 p hp
      · exact ⟨xs, rfl, hcs, honx⟩
    have hf5 : Fr M (Value.slice W n c).ownBlock w w5 := Fr.of_below HB5.out
    have hf6 := hf5.trans hfr6
    have hrow6 : w6.ownsRow base 4 1 (.slice W n c) n (way.map Value.bool) := row_fr (own_below' HT.out.2.2 HB5.out) (fun g e => hk6 g (by have := (hrow' g e).1; omega))
    have hbat6 : BAt w6 pb M (ms ++ [(h, Value.agg xs)]) := ⟨(hk6 pb hpM).trans (HBB.out.1.below HB5.out).1, hM6, hpM⟩
    have htold6 := told_fr HTo5.out hfr6 (by omega) (fun r hr => by have := (hrow' r hr).2; omega)
    have hk5 : ∀ k, k ≠ M → w6.heap[k]? = w5.heap[k]? := hk6
    have hT5 : TIn (fun b => b ≠ M) w5 base (some t) g0t := HT.out.1.below HB5.out (by rw [HG.out]; exact hbase)
    have hT6 : TIn (fun b => b ≠ M) w6 base (some t) g0t := hT5.keepG (fun b _ hb => hk5 b hb)
    clear hT5 hk5
    have hW6 : Whole w6 g5 47 xs := (hk6 g5 hg5M).trans HW5.out
    obtain ⟨hp6, l6, r6⟩ := told_at htold6 hW6
    have H6 := Lib.hid (And.intro hms1 (And.intro hms2 (And.intro hnv1 (And.intro hf6 (And.intro hrow6 (And.intro hbat6 (And.intro htold6 hT6)))))))
    have hz6s : w6.heap.size = w5.heap.size := hz6
    clear hms1 hms2 hnv1 hf5 hf6 hrow6 hbat6 htold6 hT6 hW6 c5 r5 x5 hm5 hS6 hfr6 hk6 hM6 ho6 ht6 hu6 hz6 HTo5 HW5 HB5
    cases s with
    | leaf lk lv =>
      have hpost : SavePost pb M base (.slice W n c) n way (.leaf lk lv) ms w (.returned undef) w6 :=
        ⟨rfl, _, H6.out.2.2.2.2.2.1, H6.out.2.2.1, H6.out.1, ⟨_, by rw [HH.out.1]; exact H6.out.2.1, fun _ => ⟨_, _, _, _, _, _, _, rfl, told_more H6.out.2.2.2.2.2.2.1 (by rw [HG.out]; omega)⟩⟩, H6.out.2.2.2.2.1, H6.out.2.2.2.1⟩
      have HPOST := Lib.hid hpost
      rw [show ((T.leaf lk lv).h : Int) = 0 from rfl] at hp6
      clear hpost H6 l6 r6
      go_wp2_with fail
      refine bodyPost_end (results_none rfl _ _ _) rfl ?_
      exact HPOST.out
    | node sl sr =>
      obtain ⟨IHl, IHr⟩ := HIH.out sl sr rfl
      change w6.rangeAt g5 4 (sl.sum.map V8) at l6
      change w6.rangeAt g5 36 (sr.sum.map V8) at r6
      have hq6 : decide (0 < (T.node sl sr).h) = true := by have := h_ne sl sr; simp; omega
      have hnn : n ≤ 1000 := by have := n_pos (T.node sl sr); omega
      have hdeep' : n + (T.node sl sr).n ≤ t.n := by omega
      have hg57 : g5 < w6.heap.size := by omega
      have hrown : ∀ r, (Value.slice W n c).ownBlock = some r → r ≠ g5 := fun r hr => by have := (hrow' r hr).2; omega
      obtain ⟨-, hT6⟩ := H6.out.2.2.2.2.2.2
      have hrow6 := H6.out.2.2.2.2.1
      have hbat6 := H6.out.2.2.2.2.2.1
      have hnv6 := H6.out.2.2.1
      have hb6 : base ≤ w6.heap.size := by omega
      have hg06 : g0 ≤ w6.heap.size := by omega
      have HZ6 := Lib.hid hz6s
      clear hz6s
      have hS0 : w6.drew.rangeAt g5 4 (sl.sum.map V8) := l6
      have hi7 : (Tryd.prog.info? 29).map (·.size) = some (sl.sum.map V8).length := by rw [List.length_map, sum32]; exact info49
      have hT7a := Lib.hid (And.intro hT6 (And.intro hrow6 (And.intro hbat6 hnv6)))
      clear hT6 hrow6 hbat6 hnv6
      go_upto_region 7 with (fail)
      refine wp_region_held_drew (S := fun u => u.rangeAt g5 4 (sl.sum.map V8)) (by kernel_rfl) hS0 (fun hHeld => ?_)
      refine wpAnyH_take (i := 0) (oi := { dst := some 39, op := Op.move (Operand.tmp 0), type := 50, pos := "nodes.go:39", after := #[], guard := none }) (v := ?_) rfl (by kernel_rfl) (by kernel_rfl) (by kernel_rfl) (fun _ _ _ h => h) (Or.inl ⟨by rfl, ?_⟩) (by assumption) ?_
      rotate_left
      · first | (intro w hSw; (try dsimp only at hSw); go_simp; done) | (intro w hSw; (try dsimp only at hSw); go_simp; with_reducible rfl)
      simp only [Act.put, List.setIfInBounds_toArray, List.set_cons_zero, List.set_cons_succ]
      refine wpAnyH_take (i := 1) (oi := { dst := some 40, op := Op.fieldAddr 47 (Operand.tmp 10) 4, type := 0, pos := "nodes.go:39", after := #[], guard := none }) (v := ?_) rfl (by kernel_rfl) (by kernel_rfl) (by kernel_rfl) (fun _ _ _ h => h) (Or.inl ⟨by rfl, ?_⟩) (by assumption) ?_
      rotate_left
      · first | (intro w hSw; (try dsimp only at hSw); go_simp; done) | (intro w hSw; (try dsimp only at hSw); go_simp; with_reducible rfl)
      simp only [Act.put, List.setIfInBounds_toArray, List.set_cons_zero, List.set_cons_succ]
      refine wpAnyH_take (i := 2) (oi := { dst := some 41, op := Op.load 29 (Operand.tmp 40), type := 29, pos := "nodes.go:39", after := #[{ on := 1, ground := Ground.data }], guard := none }) (v := .agg (sl.sum.map V8).toArray) rfl (by kernel_rfl) (by kernel_rfl) (by kernel_rfl) (fun _ _ _ h => h) (yieldsIf_load_mid (by rfl) 29 (.tmp 40) rfl g5 4 rfl (sl.sum.map V8) _ (fun _ h => h) Tryd.underlying29 rfl hi7) (by assumption) ?_
      simp only [Act.put, List.setIfInBounds_toArray, List.set_cons_zero, List.set_cons_succ]
      refine wpAnyH_take (i := 3) (oi := { dst := some 42, op := Op.move (Operand.tmp 2), type := 24, pos := "nodes.go:39", after := #[], guard := none }) (v := ?_) rfl (by kernel_rfl) (by kernel_rfl) (by kernel_rfl) (fun _ _ _ h => h) (Or.inl ⟨by rfl, ?_⟩) (by assumption) ?_
      rotate_left
      · first | (intro w hSw; (try dsimp only at hSw); go_simp; done) | (intro w hSw; (try dsimp only at hSw); go_simp; with_reducible rfl)
      simp only [Act.put, List.setIfInBounds_toArray, List.set_cons_zero, List.set_cons_succ]
      refine wpAnyH_take (i := 4) (oi := { dst := some 43, op := Op.move (Operand.tmp 3), type := 123, pos := "nodes.go:39", after := #[], guard := none }) (v := ?_) rfl (by kernel_rfl) (by kernel_rfl) (by kernel_rfl) (fun _ _ _ h => h) (Or.inl ⟨by rfl, ?_⟩) (by assumption) ?_
      rotate_left
      · first | (intro w hSw; (try dsimp only at hSw); go_simp; done) | (intro w hSw; (try dsimp only at hSw); go_simp; with_reducible rfl)
      simp only [Act.put, List.setIfInBounds_toArray, List.set_cons_zero, List.set_cons_succ]
      refine wpAnyH_ready (rs := [5]) (by kernel_rfl) (by simp) ?_
      refine AllReadyH.cons (o := { dst := some 44, op := Op.buildSlice 123 1 #[(0, Operand.const (Value.bool false))], type := 123, pos := "nodes.go:39", after := #[], guard := none }) rfl (fun K hK => ?_) AllReadyH.nil
      go_simp
      have hb7 : Below w6.heap.size w6 (w6.alloc (.cells #[.bool false] 4)).drew := ((Below.refl _ _).alloc (Nat.le_refl _) _).drew
      have hc7 : (w6.alloc (.cells #[.bool false] 4)).drew.cell? ⟨w6.heap.size, 0, none⟩ = some (.bool false) := (Whole.made w6 4 #[.bool false]).at_ rfl
      have hr7 := own_below' hT7a.out.2.1 hb7
      have hsz7 : (w6.alloc (.cells #[.bool false] 4)).drew.heap.size = w6.heap.size + 1 := size_alloc _ _
      have hrg7 : (w6.alloc (.cells #[.bool false] 4)).drew.rangeAt g5 4 (sl.sum.map V8) := range_keep l6 hb7 hg57
      refine hK.out _ _ hrg7 (fun _ => ?_)
      clear hK K hHeld hS0
      generalize (w6.alloc (.cells #[.bool false] 4)).drew = u7 at *
      obtain ⟨v7, x7, hrun7, hown7, hgr7, hat7⟩ := append_way u7 base W n c (way.map Value.bool) hr7 (by omega) w6.heap.size (.bool false) hc7 rfl hnn 123
      obtain ⟨W7, c7, rfl, _, _⟩ := own_form hown7
      have hfu7 : Fr M (Value.slice W n c).ownBlock w6 x7 := (Fr.of_below hb7).trans (Fr.of_grown hgr7)
      have hrx7 : x7.rangeAt g5 4 (sl.sum.map V8) := fun j v hv => (World.cell?_of_block (hgr7.block g5 (by omega) (fun e => hrown g5 e.symm rfl))).trans (hrg7 j v hv)
      refine wpAnyH_ready (rs := [6]) (by kernel_rfl) (by simp) ?_
      refine AllReadyH.cons (o := { dst := some 45, op := Op.call { callee := Callee.builtin Builtin.append, args := #[Operand.tmp 43, Operand.tmp 44], argTypes := #[123, 123] }, type := 123, pos := "nodes.go:39", after := #[{ on := 4, ground := Ground.data }, { on := 5, ground := Ground.data }], guard := none }) rfl (fun K hK => ?_) AllReadyH.nil
      refine Eq.mpr (if_pos (by rfl)) ?_
      refine step_append_way (.tmp 43) (.tmp 44) rfl (.slice W n c) (.slice (some ⟨w6.heap.size, 0, none⟩) 1 1) _ x7 rfl rfl hrun7 ?_
      refine hK.out _ _ hrx7 (fun _ => ?_)
      clear hK K hrun7 hrg7 hc7 hr7
      have hrx : ∀ r, (Value.slice W n c).ownBlock = some r → base ≤ r ∧ r < w6.heap.size := fun r hr => ⟨(hrow' r hr).1, by have := (hrow' r hr).2; omega⟩
      have hgS : g5 < u7.heap.size := by omega
      have hbat7 : BAt x7 pb M (ms ++ [(h, Value.agg xs)]) := bat_grown (hT7a.out.2.2.1.below hb7) hgr7 (fun e => by have := (hrx pb e.symm).1; omega) (fun e => by have := (hrx M e.symm).1; omega)
      have hT7 : TIn (fun b => b ≠ M) x7 base (some t) g0t := tin_fr hT7a.out.1 hfu7 (by omega) (fun r hr => (hrx r hr).1)
      have hoat7 : oat (some t) (way ++ [false]) = some sl := oat_snoc t way sl sr false HT.out.2.1
      have hmap7 : (way ++ [false]).map Value.bool = way.map Value.bool ++ [.bool false] := by rw [List.map_append]; rfl
      refine wpAnyH_ready (rs := [7]) (by kernel_rfl) (by simp) ?_
      refine AllReadyH.cons (o := { dst := some 46, op := Op.call { callee := Callee.value (Operand.func 48), args := #[Operand.tmp 39, Operand.tmp 41, Operand.tmp 42, Operand.tmp 45], argTypes := #[50, 29, 24, 123] }, type := 0, pos := "nodes.go:39", after := #[{ on := 0, ground := Ground.data }, { on := 2, ground := Ground.data }, { on := 3, ground := Ground.data }, { on := 6, ground := Ground.data }, { on := 6, ground := Ground.chain }], guard := none }) rfl (fun K hK => ?_) AllReadyH.nil
      have HCALL := Lib.hid (IHl (way ++ [false]) W7 (n + 1) c7 (ms ++ [(h, Value.agg xs)]) x7 hbat7 hT7a.out.2.2.2 (by have := hgr7.size; omega) hT7 hoat7 (by rw [hmap7]; exact hown7))
      have HF := Lib.hid (And.intro hb7 (And.intro hgr7 (And.intro hat7 hrx)))
      clear hb7 hgr7 hat7 hrx hbat7 hT7 hoat7 hown7 hfu7
      rw [ptr_some, ptr_some] at HCALL
      clear hsz7
      go_simp
      refine HCALL.out.mono ?_
      rintro e y7 ⟨rfl, ms7, hbat8, hnv8, hkeep7, -, hown7, hfr7⟩
      rw [hmap7] at hown7
      obtain ⟨hfy7, hrow8⟩ := child_back HF.out.1 HF.out.2.1 HF.out.2.2.1 hfr7 hown7 hMb HF.out.2.2.2
      have hT8 := tin_fr hT7a.out.1 hfy7 (by omega) (fun r hr => (HF.out.2.2.2 r hr).1)
      have hrg7 : y7.rangeAt g5 4 (sl.sum.map V8) := range_fr l6 hfy7 hg57 hg5M (fun e => hrown g5 e.symm rfl)
      have hg58 : g5 < y7.heap.size := by have := hfy7.size; omega
      have hbase8 : base ≤ y7.heap.size := by have := hfy7.size; omega
      have hgy8 : g0 ≤ y7.heap.size := by have := hfy7.size; omega
      have HK7 := Lib.hid (And.intro hfy7 hkeep7)
      refine hK.out _ _ hrg7 (fun _ => ?_)
      clear hK K hrg7 HF HCALL hown7 hfr7 hgS hmap7
      refine wpAnyH_done (by kernel_rfl) ?_ _
      have r7y : y7.rangeAt g5 36 (sr.sum.map V8) := range_fr r6 hfy7 hg57 hg5M (fun e => hrown g5 e.symm rfl)
      clear hfy7 hkeep7 l6 r6 hrx7 hT7a
      have hS0 : y7.drew.rangeAt g5 36 (sr.sum.map V8) := r7y
      have hi8 : (Tryd.prog.info? 29).map (·.size) = some (sr.sum.map V8).length := by rw [List.length_map, sum32]; exact info49
      have hT8a := Lib.hid (And.intro hT8 (And.intro hrow8 (And.intro hbat8 hnv8)))
      clear hT8 hrow8 hbat8 hnv8
      go_upto_region 8 with (fail)
      refine wp_region_held_drew (S := fun u => u.rangeAt g5 36 (sr.sum.map V8)) (by kernel_rfl) hS0 (fun hHeld => ?_)
      refine wpAnyH_take (i := 0) (oi := { dst := some 47, op := Op.move (Operand.tmp 0), type := 50, pos := "nodes.go:40", after := #[], guard := none }) (v := ?_) rfl (by kernel_rfl) (by kernel_rfl) (by kernel_rfl) (fun _ _ _ h => h) (Or.inl ⟨by rfl, ?_⟩) (by assumption) ?_
      rotate_left
      · first | (intro w hSw; (try dsimp only at hSw); go_simp; done) | (intro w hSw; (try dsimp only at hSw); go_simp; with_reducible rfl)
      simp only [Act.put, List.setIfInBounds_toArray, List.set_cons_zero, List.set_cons_succ]
      refine wpAnyH_take (i := 1) (oi := { dst := some 48, op := Op.fieldAddr 47 (Operand.tmp 10) 5, type := 0, pos := "nodes.go:40", after := #[], guard := none }) (v := ?_) rfl (by kernel_rfl) (by kernel_rfl) (by kernel_rfl) (fun _ _ _ h => h) (Or.inl ⟨by rfl, ?_⟩) (by assumption) ?_
      rotate_left
      · first | (intro w hSw; (try dsimp only at hSw); go_simp; done) | (intro w hSw; (try dsimp only at hSw); go_simp; with_reducible rfl)
      simp only [Act.put, List.setIfInBounds_toArray, List.set_cons_zero, List.set_cons_succ]
      refine wpAnyH_take (i := 2) (oi := { dst := some 49, op := Op.load 29 (Operand.tmp 48), type := 29, pos := "nodes.go:40", after := #[{ on := 1, ground := Ground.data }], guard := none }) (v := .agg (sr.sum.map V8).toArray) rfl (by kernel_rfl) (by kernel_rfl) (by kernel_rfl) (fun _ _ _ h => h) (yieldsIf_load_mid (by rfl) 29 (.tmp 48) rfl g5 36 rfl (sr.sum.map V8) _ (fun _ h => h) Tryd.underlying29 rfl hi8) (by assumption) ?_
      simp only [Act.put, List.setIfInBounds_toArray, List.set_cons_zero, List.set_cons_succ]
      refine wpAnyH_take (i := 3) (oi := { dst := some 50, op := Op.move (Operand.tmp 2), type := 24, pos := "nodes.go:40", after := #[], guard := none }) (v := ?_) rfl (by kernel_rfl) (by kernel_rfl) (by kernel_rfl) (fun _ _ _ h => h) (Or.inl ⟨by rfl, ?_⟩) (by assumption) ?_
      rotate_left
      · first | (intro w hSw; (try dsimp only at hSw); go_simp; done) | (intro w hSw; (try dsimp only at hSw); go_simp; with_reducible rfl)
      simp only [Act.put, List.setIfInBounds_toArray, List.set_cons_zero, List.set_cons_succ]
      refine wpAnyH_take (i := 4) (oi := { dst := some 51, op := Op.move (Operand.tmp 3), type := 123, pos := "nodes.go:40", after := #[], guard := none }) (v := ?_) rfl (by kernel_rfl) (by kernel_rfl) (by kernel_rfl) (fun _ _ _ h => h) (Or.inl ⟨by rfl, ?_⟩) (by assumption) ?_
      rotate_left
      · first | (intro w hSw; (try dsimp only at hSw); go_simp; done) | (intro w hSw; (try dsimp only at hSw); go_simp; with_reducible rfl)
      simp only [Act.put, List.setIfInBounds_toArray, List.set_cons_zero, List.set_cons_succ]
      refine wpAnyH_ready (rs := [5]) (by kernel_rfl) (by simp) ?_
      refine AllReadyH.cons (o := { dst := some 52, op := Op.buildSlice 123 1 #[(0, Operand.const (Value.bool true))], type := 123, pos := "nodes.go:40", after := #[], guard := none }) rfl (fun K hK => ?_) AllReadyH.nil
      go_simp
      have hb8 : Below y7.heap.size y7 (y7.alloc (.cells #[.bool true] 4)).drew := ((Below.refl _ _).alloc (Nat.le_refl _) _).drew
      have hc8 : (y7.alloc (.cells #[.bool true] 4)).drew.cell? ⟨y7.heap.size, 0, none⟩ = some (.bool true) := (Whole.made y7 4 #[.bool true]).at_ rfl
      have hr8 := own_below' hT8a.out.2.1 hb8
      have hsz8 : (y7.alloc (.cells #[.bool true] 4)).drew.heap.size = y7.heap.size + 1 := size_alloc _ _
      have hrg8 : (y7.alloc (.cells #[.bool true] 4)).drew.rangeAt g5 36 (sr.sum.map V8) := range_keep r7y hb8 hg58
      refine hK.out _ _ hrg8 (fun _ => ?_)
      clear hK K hHeld hS0
      generalize (y7.alloc (.cells #[.bool true] 4)).drew = u8 at *
      obtain ⟨v8, x8, hrun8, hown8, hgr8, hat8⟩ := append_way u8 base W n c (way.map Value.bool) hr8 (by omega) y7.heap.size (.bool true) hc8 rfl hnn 123
      obtain ⟨W8, c8, rfl, _, _⟩ := own_form hown8
      have hfu8 : Fr M (Value.slice W n c).ownBlock y7 x8 := (Fr.of_below hb8).trans (Fr.of_grown hgr8)
      have hrx8 : x8.rangeAt g5 36 (sr.sum.map V8) := fun j v hv => (World.cell?_of_block (hgr8.block g5 (by omega) (fun e => hrown g5 e.symm rfl))).trans (hrg8 j v hv)
      refine wpAnyH_ready (rs := [6]) (by kernel_rfl) (by simp) ?_
      refine AllReadyH.cons (o := { dst := some 53, op := Op.call { callee := Callee.builtin Builtin.append, args := #[Operand.tmp 51, Operand.tmp 52], argTypes := #[123, 123] }, type := 123, pos := "nodes.go:40", after := #[{ on := 4, ground := Ground.data }, { on := 5, ground := Ground.data }], guard := none }) rfl (fun K hK => ?_) AllReadyH.nil
      refine Eq.mpr (if_pos (by rfl)) ?_
      refine step_append_way (.tmp 51) (.tmp 52) rfl (.slice W n c) (.slice (some ⟨y7.heap.size, 0, none⟩) 1 1) _ x8 rfl rfl hrun8 ?_
      refine hK.out _ _ hrx8 (fun _ => ?_)
      clear hK K hrun8 hrg8 hc8 hr8
      have hrx : ∀ r, (Value.slice W n c).ownBlock = some r → base ≤ r ∧ r < y7.heap.size := fun r hr => ⟨(hrow' r hr).1, by have := (hrow' r hr).2; omega⟩
      have hgS : g5 < u8.heap.size := by omega
      have hbat8 : BAt x8 pb M (ms7) := bat_grown (hT8a.out.2.2.1.below hb8) hgr8 (fun e => by have := (hrx pb e.symm).1; omega) (fun e => by have := (hrx M e.symm).1; omega)
      have hT8 : TIn (fun b => b ≠ M) x8 base (some t) g0t := tin_fr hT8a.out.1 hfu8 (by omega) (fun r hr => (hrx r hr).1)
      have hoat8 : oat (some t) (way ++ [true]) = some sr := oat_snoc t way sl sr true HT.out.2.1
      have hmap8 : (way ++ [true]).map Value.bool = way.map Value.bool ++ [.bool true] := by rw [List.map_append]; rfl
      refine wpAnyH_ready (rs := [7]) (by kernel_rfl) (by simp) ?_
      refine AllReadyH.cons (o := { dst := some 54, op := Op.call { callee := Callee.value (Operand.func 48), args := #[Operand.tmp 47, Operand.tmp 49, Operand.tmp 50, Operand.tmp 53], argTypes := #[50, 29, 24, 123] }, type := 0, pos := "nodes.go:40", after := #[{ on := 0, ground := Ground.data }, { on := 2, ground := Ground.data }, { on := 3, ground := Ground.data }, { on := 6, ground := Ground.data }, { on := 6, ground := Ground.chain }], guard := none }) rfl (fun K hK => ?_) AllReadyH.nil
      have HCALL := Lib.hid (IHr (way ++ [true]) W8 (n + 1) c8 (ms7) x8 hbat8 hT8a.out.2.2.2 (by have := hgr8.size; omega) hT8 hoat8 (by rw [hmap8]; exact hown8))
      have HF := Lib.hid (And.intro hb8 (And.intro hgr8 (And.intro hat8 hrx)))
      clear hb8 hgr8 hat8 hrx hbat8 hT8 hoat8 hown8 hfu8
      rw [ptr_some, ptr_some] at HCALL
      clear hsz8
      go_simp
      refine HCALL.out.mono ?_
      rintro e y8 ⟨rfl, ms8, hbat9, hnv9, hkeep8, -, hown8, hfr8⟩
      rw [hmap8] at hown8
      obtain ⟨hfy8, hrow9⟩ := child_back HF.out.1 HF.out.2.1 HF.out.2.2.1 hfr8 hown8 hMb HF.out.2.2.2
      have hT9 := tin_fr hT8a.out.1 hfy8 (by omega) (fun r hr => (HF.out.2.2.2 r hr).1)
      have hrg8 : y8.rangeAt g5 36 (sr.sum.map V8) := range_fr r7y hfy8 hg58 hg5M (fun e => hrown g5 e.symm rfl)
      have hg59 : g5 < y8.heap.size := by have := hfy8.size; omega
      have hbase9 : base ≤ y8.heap.size := by have := hfy8.size; omega
      have hgy9 : g0 ≤ y8.heap.size := by have := hfy8.size; omega
      have HK8 := Lib.hid (And.intro hfy8 hkeep8)
      refine hK.out _ _ hrg8 (fun _ => ?_)
      clear hK K hrg8 HF HCALL hown8 hfr8 hgS hmap8
      refine wpAnyH_done (by kernel_rfl) ?_ _
      have hpost : SavePost pb M base (.slice W n c) n way (.node sl sr) ms w (.returned undef) y8 :=
        ⟨rfl, ms8, hbat9, hnv9, fun k v hv => HK8.out.2 _ _ (HK7.out.2 _ _ (H6.out.1 k v hv)), ⟨.agg xs, by rw [HH.out.1]; exact HK8.out.2 _ _ (HK7.out.2 _ _ H6.out.2.1), fun _ =>
          ⟨_, _, _, _, _, _, _, rfl, told_more (told_fr H6.out.2.2.2.2.2.2.1 (HK7.out.1.trans HK8.out.1) (by omega) (fun r hr => by have := (hrow' r hr).2; omega)) (by rw [HG.out]; omega)⟩⟩, hrow9, H6.out.2.2.2.1.trans (HK7.out.1.trans HK8.out.1)⟩
      have HPOST := Lib.hid hpost
      clear hpost
      go_wp2_with fail
      refine bodyPost_end (results_none rfl _ _ _) rfl ?_
      exact HPOST.out
end Go.Proofs.YtolkpjbbfopmnaaDoor
