/-
  down: the proof of the leaf that a key's way leads to, and the key of the leaf behind it; conditions: the tree and the key lie in memory, its keys have a byte. It only makes memory of its own.
  lastWrong and leadsTo: is a turn's Height wrong, and where does a proof lead; conditions: the proof lies in memory. They only make memory of their own.
  leadsTo: the sum to which a proof leads; conditions: the proof lies in memory, its Heights are right, sha's table holds its words. It only makes memory of its own.
  down of no tree; Make and None: what they return; conditions: the tree and the key lie in memory, its keys have a byte. They only make memory of their own.
  None: the gap that it returns; conditions: the tree and the key lie in memory, its keys have a byte. It only makes memory of its own.
-/
import Derived.Great.BuildSlice
import Derived.Test.YtehmkkccnadhoaaDoorPN05
namespace Go.Proofs.YtehmkkccnadhoaaDoor
open Go.RowKit
open Tr

def tl (ts : List Tn) : List Value := (ts.map tcells).flatten
theorem tl_len : ∀ (ts : List Tn), (∀ x ∈ ts, x.o.length = 32) → (tl ts).length = ts.length * 35
  | [], _ => rfl
  | x :: ts, h => by
    have := tl_len ts fun y hy => h y (by simp [hy])
    simp only [tl, List.map_cons, List.flatten_cons, List.length_append, List.length_cons] at this ⊢
    rw [this, tcells_len x (h x (by simp))]
    omega
theorem tl_snoc (ts : List Tn) (x : Tn) : tl (ts ++ [x]) = tl ts ++ tcells x := by simp [tl]
/-- What a turn in memory is. -/
def Tn.ok (x : Tn) : Prop := x.o.length = 32 ∧ x.z < 18446744073709551616
/-- Turns that are read. -/
def TRd (w : World) (B : Nat) (A : Option Addr) (n : Nat) (ts : List Tn) : Prop := RdV w B 35 A n (tl ts) ∧ ∀ x ∈ ts, x.ok
theorem TRd.len {w : World} {B n : Nat} {A : Option Addr} {ts : List Tn} (h : TRd w B A n ts) : ts.length = n := by
  have h1 := h.1.1
  rw [tl_len ts (fun x hx => (h.2 x hx).1)] at h1
  omega
theorem TRd.below {w w' : World} {B B' n : Nat} {A : Option Addr} {ts : List Tn} (h : TRd w B A n ts) (hb : Below B' w w') (hB : B ≤ B') : TRd w' B A n ts := ⟨h.1.below hb hB, h.2⟩
theorem TRd.more {w : World} {B B' n : Nat} {A : Option Addr} {ts : List Tn} (h : TRd w B A n ts) (hB : B ≤ B') : TRd w B' A n ts := ⟨h.1.more hB, h.2⟩
/-- A proof. -/
structure Pf where
  key : List UInt8
  val : List UInt8
  turns : List Tn
/-- A proof as a value. -/
def PfV (w : World) (B : Nat) (X : Array Value) (p : Pf) : Prop :=
  ∃ A n c A' n' c' A2 m k, X = #[.slice A n c, .slice A' n' c', .slice A2 m k] ∧ Rd w B A n p.key ∧ n ≤ c ∧ Rd w B A' n' p.val ∧ n' ≤ c' ∧ TRd w B A2 m p.turns ∧ m ≤ k
theorem PfV.below {w w' : World} {B B' : Nat} {X : Array Value} {p : Pf} (h : PfV w B X p) (hb : Below B' w w') (hB : B ≤ B') : PfV w' B X p := by
  obtain ⟨A, n, c, A', n', c', A2, m, k, h0, h1, h2, h3, h4, h5, h6⟩ := h
  exact ⟨A, n, c, A', n', c', A2, m, k, h0, h1.below hb hB, h2, h3.below hb hB, h4, h5.below hb hB, h6⟩
theorem PfV.more {w : World} {B B' : Nat} {X : Array Value} {p : Pf} (h : PfV w B X p) (hB : B ≤ B') : PfV w B' X p := by
  obtain ⟨A, n, c, A', n', c', A2, m, k, h0, h1, h2, h3, h4, h5, h6⟩ := h
  exact ⟨A, n, c, A', n', c', A2, m, k, h0, h1.more hB, h2, h3.more hB, h4, h5.more hB, h6⟩
theorem PfV.on {w w' : World} {X : Array Value} {p : Pf} (h : PfV w w.heap.size X p) (hb : Below w.heap.size w w') : PfV w' w'.heap.size X p := (h.below hb (Nat.le_refl _)).more hb.size
/-- The leaf that the way to a key leads to. -/
def leafOf (key : List UInt8) : T → T
  | .leaf k v => .leaf k v
  | .node l r => if lt key (T.node l r).key = true then leafOf key l else leafOf key r
def turnsTo (key : List UInt8) : T → List Tn
  | .leaf _ _ => []
  | .node l r => if lt key (T.node l r).key = true then ⟨(T.node l r).h, (T.node l r).n, false, r.sum⟩ :: turnsTo key l else ⟨(T.node l r).h, (T.node l r).n, true, l.sum⟩ :: turnsTo key r
/-- The key of the leaf behind. -/
def nextTo (key : List UInt8) : T → Option (List UInt8) → Option (List UInt8)
  | .leaf _ _, nx => nx
  | .node l r, nx => if lt key (T.node l r).key = true then nextTo key l (some (T.node l r).key) else nextTo key r nx
def proofTo (key : List UInt8) (t : T) : Pf := ⟨(leafOf key t).key, (leafOf key t).val, turnsTo key t⟩
def NextR (w : World) (nx : Option (List UInt8)) (v : Value) : Prop :=
  (nx = none ∧ v = .slice none 0 0) ∨ ∃ k b o n c, nx = some k ∧ v = .slice (some ⟨b, o, none⟩) n c ∧ Rd w w.heap.size (some ⟨b, o, none⟩) n k ∧ n ≤ c ∧ 0 < n
theorem NextR.on {w w' : World} {nx : Option (List UInt8)} {v : Value} (h : NextR w nx v) (hb : Below w.heap.size w w') : NextR w' nx v := by
  rcases h with h | ⟨k, b, o, n, c, h1, h2, h3, h4, h5⟩
  · exact .inl h
  · exact .inr ⟨k, b, o, n, c, h1, h2, (h3.below hb (Nat.le_refl _)).more hb.size, h4, h5⟩
/-- What a proof refers to lies in new blocks. -/
def PfNew (B : Nat) (X : Array Value) : Prop := ∀ i b o n c : Nat, X[i]? = some (Value.slice (some ⟨b, o, none⟩) n c) → B ≤ b
theorem rd_new_block {w w' : World} {B B' n k : Nat} {A : Option Addr} {bs : List UInt8} (h : Rd w B A n bs) (hB : B ≤ B') (hA : ∀ b o, A = some ⟨b, o, none⟩ → k ≤ b) (hk : ∀ b, k ≤ b → b < B → w'.heap[b]? = w.heap[b]?) : Rd w' B' A n bs :=
  ⟨h.1, fun hn => by
    obtain ⟨b, o, e, hb, hc⟩ := h.2 hn
    exact ⟨b, o, e, by omega, fun j u hu => (World.cell?_of_block (w := w) (a := ⟨b, o + j, none⟩) (hk b (hA b o e) hb)).trans (hc j u hu)⟩⟩
theorem PfV.keepNew {w w' : World} {B B' k : Nat} {X : Array Value} {p : Pf} (h : PfV w B X p) (hN : PfNew k X) (hB : B ≤ B') (hk : ∀ b, k ≤ b → b < B → w'.heap[b]? = w.heap[b]?) : PfV w' B' X p := by
  obtain ⟨A, n, c, A', n', c', A2, m, q, rfl, h1, h2, h3, h4, h5, h6⟩ := h
  refine ⟨A, n, c, A', n', c', A2, m, q, rfl, rd_new_block h1 hB (fun b o e => hN 0 b o n c (by rw [← e]; rfl)) hk, h2, rd_new_block h3 hB (fun b o e => hN 1 b o n' c' (by rw [← e]; rfl)) hk, h4, ⟨⟨h5.1.1, fun hn => ?_⟩, h5.2⟩, h6⟩
  obtain ⟨b, o, e, hb, hc⟩ := h5.1.2 hn
  exact ⟨b, o, e, by omega, fun j u hu => (World.cell?_of_block (w := w) (a := ⟨b, o + j, none⟩) (hk b (hN 2 b o m q (by rw [← e]; rfl)) hb)).trans (hc j u hu)⟩
def DownPost (o : Option T) (key : List UInt8) (w : World) (e : Ending) (w' : World) : Prop :=
  (o = none ∧ e = .returned (.tuple #[.pointer none, .slice none 0 0]) ∧ Below w.heap.size w w') ∨
  ∃ t gp X v5, o = some t ∧ e = .returned (.tuple #[.pointer (some ⟨gp, 0, none⟩), v5]) ∧ Whole w' gp 26 X ∧ PfV w' w'.heap.size X (proofTo key t) ∧ NextR w' (nextTo key t none) v5 ∧ w.heap.size ≤ gp ∧ PfNew w.heap.size X ∧ Below w.heap.size w w'

theorem own_keep {w w' : World} {base size n : Nat} {e : TypeId} {v : Value} {xs : List Value} (h : w.ownsRow base e size v n xs) (hb : Below w.heap.size w w') : w'.ownsRow base e size v n xs := by
  refine ⟨h.1, ?_⟩
  rcases h.2 with h2 | ⟨g, cap, cur, e1, h2, h3, h4⟩
  · exact .inl h2
  · exact .inr ⟨g, cap, cur, e1, h2, (hb.block g (Whole.lt (show Whole w g _ _ from h3))).trans h3, h4⟩
theorem own_block {w w' : World} {base size n : Nat} {e : TypeId} {v : Value} {xs : List Value} (h : w.ownsRow base e size v n xs) (hk : ∀ g, v.ownBlock = some g → w'.heap[g]? = w.heap[g]?) : w'.ownsRow base e size v n xs := by
  refine ⟨h.1, ?_⟩
  rcases h.2 with h2 | ⟨g, cap, cur, rfl, h2, h3, h4⟩
  · exact .inl h2
  · exact .inr ⟨g, cap, cur, rfl, h2, (hk g rfl).trans h3, h4⟩
theorem own_lt {w : World} {base size n : Nat} {e : TypeId} {v : Value} {xs : List Value} (h : w.ownsRow base e size v n xs) : ∀ g, v.ownBlock = some g → base ≤ g ∧ g < w.heap.size := fun g hg => by
  rcases h.2 with ⟨rfl, _⟩ | ⟨g', cap, cur, rfl, h2, h3, h4⟩
  · cases hg
  · injection hg with hg
    subst hg
    exact ⟨h2, Whole.lt (show Whole w g' _ _ from h3)⟩
theorem oat_snoc (t : T) : ∀ (way : List Bool) (l r : T) (b : Bool), oat (some t) way = some (.node l r) → oat (some t) (way ++ [b]) = some (if b then r else l) := by
  intro way
  induction way generalizing t with
  | nil =>
    intro l r b h
    rw [oat_nil] at h
    injection h with h
    subst h
    cases b <;> simp [oat]
  | cons x way ih =>
    intro l r b h
    cases t with
    | leaf k v => simp [oat] at h
    | node l' r' =>
      rw [List.cons_append]
      unfold oat at h ⊢
      exact ih _ l r b h
/-- How memory stands in down's loop. -/
structure DSt (w wx : World) (gp : Nat) (nx : Option (List UInt8)) (v5 : Value) (way : List Bool) (v6 : Value) (ts : List Tn) (vt : Value) : Prop where
  gw : Whole wx gp 26 #[.slice none 0 0, .slice none 0 0, vt]
  tr : wx.ownsRow w.heap.size 46 35 vt ts.length (tl ts)
  t32 : ∀ x ∈ ts, x.ok
  wr : wx.ownsRow w.heap.size 4 1 v6 way.length (way.map Value.bool)
  n1 : vt.ownBlock ≠ some gp
  n2 : v6.ownBlock ≠ some gp
  n3 : ∀ b, v6.ownBlock = some b → vt.ownBlock ≠ some b
  nx : NextR wx nx v5
  far : ∀ b o n c, v5 = .slice (some ⟨b, o, none⟩) n c → b ≠ gp ∧ vt.ownBlock ≠ some b ∧ v6.ownBlock ≠ some b
  ge : w.heap.size ≤ gp
  bel : Below w.heap.size w wx
theorem DSt.on {w wx wy : World} {gp : Nat} {nx : Option (List UInt8)} {v5 v6 vt : Value} {way : List Bool} {ts : List Tn} (h : DSt w wx gp nx v5 way v6 ts vt) (hb : Below wx.heap.size wx wy) : DSt w wy gp nx v5 way v6 ts vt :=
  ⟨h.gw.below hb h.gw.lt, own_keep h.tr hb, h.t32, own_keep h.wr hb, h.n1, h.n2, h.n3, h.nx.on hb, h.far, h.ge, h.bel.trans (hb.mono h.bel.size)⟩
theorem rd_block {w w' : World} {B B' n : Nat} {A : Option Addr} {bs : List UInt8} (h : Rd w B A n bs) (hB : B ≤ B') (hk : ∀ b o, A = some ⟨b, o, none⟩ → b < B → w'.heap[b]? = w.heap[b]?) : Rd w' B' A n bs :=
  ⟨h.1, fun hn => by
    obtain ⟨b, o, e, hb, hc⟩ := h.2 hn
    exact ⟨b, o, e, by omega, fun j u hu => (World.cell?_of_block (w := w) (a := ⟨b, o + j, none⟩) (hk b o e hb)).trans (hc j u hu)⟩⟩
/-- The way's row once the turns have grown and their slice is stored. -/
theorem DSt.way4 {w a a1 a2 a4 : World} {gp : Nat} {nx : Option (List UInt8)} {v5 v6 vt vt' : Value} {way : List Bool} {ts : List Tn} (h : DSt w a gp nx v5 way v6 ts vt) (h1 : Below a.heap.size a a1) (g2 : a1.grownBy a2 vt.ownBlock) (h4 : Below a2.heap.size (a2.setCell ⟨gp, 2, none⟩ vt') a4) :
    a4.ownsRow w.heap.size 4 1 v6 way.length (way.map Value.bool) := by
  have hlt := own_lt h.wr
  have e2 : (a2.setCell ⟨gp, 2, none⟩ vt').heap.size = a2.heap.size := World.size_setCell _ _ _
  have e1 := h1.size
  have e3 := g2.size
  refine own_block h.wr fun g hg => ?_
  have hl := (hlt g hg).2
  refine ((h4.block g (by omega)).trans (Below.heap_setCell a2 ⟨gp, 2, none⟩ vt' g (fun e => ?_))).trans ((g2.block g (by omega) (fun e => h.n3 g hg e.symm)).trans (h1.block g hl))
  have e : g = gp := e
  rw [e] at hg
  exact h.n2 hg
theorem DSt.step {w a a1 a2 a4 a5 : World} {gp : Nat} {nx nx' : Option (List UInt8)} {v5 v5' v6 v6' vt vt' : Value} {way : List Bool} {ts : List Tn} (h : DSt w a gp nx v5 way v6 ts vt) (x : Tn) (hx : x.ok) (bb : Bool)
    (hnx : NextR a nx' v5') (hfar : ∀ b o n c, v5' = .slice (some ⟨b, o, none⟩) n c → b ≠ gp ∧ vt.ownBlock ≠ some b ∧ v6.ownBlock ≠ some b)
    (h1 : Below a.heap.size a a1) (o2 : a2.ownsRow w.heap.size 46 35 vt' (ts.length + 1) (tl ts ++ tcells x)) (g2 : a1.grownBy a2 vt.ownBlock) (t2 : vt'.ownBlock = vt.ownBlock ∨ vt'.ownBlock = some a1.heap.size)
    (h4 : Below a2.heap.size (a2.setCell ⟨gp, 2, none⟩ vt') a4) (o5 : a5.ownsRow w.heap.size 4 1 v6' (way.length + 1) (way.map Value.bool ++ [.bool bb])) (g5 : a4.grownBy a5 v6.ownBlock) (t5 : v6'.ownBlock = v6.ownBlock ∨ v6'.ownBlock = some a4.heap.size) :
    DSt w a5 gp nx' v5' (way ++ [bb]) v6' (ts ++ [x]) vt' := by
  have hgl := h.gw.lt
  have e1 := h1.size
  have e2 := g2.size
  have e3 : (a2.setCell ⟨gp, 2, none⟩ vt').heap.size = a2.heap.size := World.size_setCell _ _ _
  have e4 := h4.size
  have e5 := g5.size
  have lt6 := own_lt h.wr
  have ltt := own_lt h.tr
  have ltt' := own_lt o2
  have m1 : vt'.ownBlock ≠ some gp := by
    rcases t2 with e | e
    · rw [e]; exact h.n1
    · rw [e]; intro k; injection k with k; omega
  have m3 : ∀ b, v6.ownBlock = some b → vt'.ownBlock ≠ some b := fun b hb => by
    rcases t2 with e | e
    · rw [e]; exact h.n3 b hb
    · rw [e]; intro k; injection k with k; have := (lt6 b hb).2; omega
  have w3 : Whole (a2.setCell ⟨gp, 2, none⟩ vt') gp 26 #[.slice none 0 0, .slice none 0 0, vt'] := by
    have k1 := h.gw.below h1 hgl
    have k2 : Whole a2 gp 26 #[.slice none 0 0, .slice none 0 0, vt] := (g2.block gp (by omega) (fun e => h.n1 e.symm)).trans k1
    exact k2.set 2 vt'
  refine ⟨?_, ?_, ?_, ?_, m1, ?_, ?_, ?_, ?_, h.ge, ?_⟩
  · exact (g5.block gp (by omega) (fun e => h.n2 e.symm)).trans (w3.below h4 (by omega))
  · rw [tl_snoc, List.length_append]
    refine own_block (w := a2) o2 fun g hg => ?_
    have hl := (ltt' g hg).2
    refine ((g5.block g (by omega) (fun e => m3 g e.symm hg)).trans (h4.block g (by omega))).trans (Below.heap_setCell a2 ⟨gp, 2, none⟩ vt' g (fun e => ?_))
    have e : g = gp := e
    rw [e] at hg
    exact m1 hg
  · intro y hy
    rcases List.mem_append.1 hy with hy | hy
    · exact h.t32 y hy
    · rw [List.mem_singleton.1 hy]; exact hx
  · rw [List.map_append, List.length_append]
    exact o5
  · rcases t5 with e | e
    · rw [e]; exact h.n2
    · rw [e]; intro k; injection k with k; omega
  · intro b hb
    rcases t5 with e | e
    · rw [e] at hb; exact m3 b hb
    · rw [e] at hb; injection hb with hb; intro k; have := (ltt' b k).2; omega
  · rcases hnx with k | ⟨k, b, o, n, c, k1, k2, k3, k4, k5⟩
    · exact .inl k
    · obtain ⟨f1, f2, f3⟩ := hfar b o n c k2
      refine .inr ⟨k, b, o, n, c, k1, k2, rd_block k3 (by omega) (fun b' o' e hb => ?_), k4, k5⟩
      injection e with e
      injection e with e _
      subst e
      exact (((g5.block b (by omega) (fun e => f3 e.symm)).trans (h4.block b (by omega))).trans (Below.heap_setCell a2 ⟨gp, 2, none⟩ vt' b f1)).trans ((g2.block b (by omega) (fun e => f2 e.symm)).trans (h1.block b hb))
  · intro b o n c e
    obtain ⟨f1, f2, f3⟩ := hfar b o n c e
    have hbl : 0 < n → b < a.heap.size := fun hn => by
      rcases hnx with ⟨_, k⟩ | ⟨k, b', o', n', c', k1, k2, k3, k4, k5⟩
      · rw [e] at k; cases k
      · rw [e] at k2
        injection k2 with k2 _ _
        injection k2 with k2
        injection k2 with k2 _
        obtain ⟨b'', o'', e', hb, _⟩ := k3.2 k5
        injection e' with e'
        injection e' with e' _
        omega
    have hn : 0 < n := by
      rcases hnx with ⟨_, k⟩ | ⟨k, b', o', n', c', k1, k2, k3, k4, k5⟩
      · rw [e] at k; cases k
      · rw [e] at k2
        injection k2 with _ k2 _
        omega
    have hb := hbl hn
    refine ⟨f1, ?_, ?_⟩
    · rcases t2 with k | k
      · rw [k]; exact f2
      · rw [k]; intro q; injection q with q; omega
    · rcases t5 with k | k
      · rw [k]; exact f3
      · rw [k]; intro q; injection q with q; omega
  · have hB := h.bel.size
    have hg := h.ge
    refine ⟨g5.os.trans (h4.os.trans (g2.os.trans (h1.os.trans h.bel.os))), g5.tape.trans (h4.tape.trans (g2.tape.trans (h1.tape.trans h.bel.tape))), g5.output.trans (h4.output.trans (g2.output.trans (h1.output.trans h.bel.output))), by omega, fun k hk => ?_⟩
    have f3 : v6.ownBlock ≠ some k := fun e => by have := (lt6 k e).1; omega
    have f2 : vt.ownBlock ≠ some k := fun e => by have := (ltt k e).1; omega
    exact ((((g5.block k (by omega) (fun e => f3 e.symm)).trans (h4.block k (by omega))).trans (Below.heap_setCell a2 ⟨gp, 2, none⟩ vt' k (fun e => by have e : k = gp := e; omega))).trans ((g2.block k (by omega) (fun e => f2 e.symm)).trans (h1.block k (by omega)))).trans (h.bel.block k hk)
theorem info46r : (Tryd.prog.info? 46).map (fun i => (i.zero, i.size, i.bytes)) = some (some (.agg zt), 35, 56) := info46f
theorem info4w : (Tryd.prog.info? 4).map (fun i => (i.zero, i.size, i.bytes)) = some (some (.bool false), 1, 1) := by kernel_rfl
/-- A slice of one turn. -/
theorem fill_turn (z Y : Array Value) (hz : z.size = 35) (hY : Y.size = 35) : Instr.fill (fun i => some (i * 35, 35)) z [(0, Value.agg Y)] = some Y := by
  have h := Great.fill_whole (s := 35) (by omega) [Value.agg Y] z (fun v hv => by simp at hv; subst hv; exact hY) (by simp [hz])
  simpa [Value.cells] using h
theorem wp_build_turn {o : Oper} {a : Act} {w : World} {K : Act → World → Prop} {Q : Exit → Act → World → Prop} (x : Operand)
    (ho : o.op = .buildSlice 24 1 #[(0, x)]) (Y : Array Value) (hY : Y.size = 35) (hx : a.eval x = .agg Y)
    (h : K (a.put o.dst (.slice (some ⟨w.heap.size, 0, none⟩) 1 1)) (w.alloc (.cells Y 46))) : o.wp Tryd.prog a w K Q := by
  obtain ⟨i, hi, hz, hs, hby⟩ := info_of info46r
  refine wp_buildSlice 24 46 1 _ ho Y i _ Tryd.underlying24 hi hz (by rw [hs]; omega) (by rw [hs]; omega) ?_ h
  rw [hs]
  have := fill_turn ((Array.range (1 * 35)).map ((Value.agg zt).cells[· % (Value.agg zt).cells.size]!)) Y (by simp) hY
  simpa [hx] using this
theorem step_append_run {ops : Array Oper} {o : Oper} {a : Act} {w w' : World} {K : Act → World → Prop} {Q : Exit → Act → World → Prop} {F : Prop} {v u v' : Value} (hgd : o.guard = none) (s x : Operand) (t : TypeId)
    (ho : o.op = .call { callee := .builtin .append, args := #[s, x], argTypes := #[t, t] }) (hs : a.eval s = v) (hx : a.eval x = u) (hrun : (Builtin.append_ #[t, t] o.type #[v, u]).run Tryd.prog w = .ok v' w') (h : K (a.put o.dst v') w') :
    if Region.wanted o (yielded ops a.tmps) = true then Oper.wp Tryd.prog o a w K Q else F := by
  have hw : Region.wanted o (yielded ops a.tmps) = true := by simp [Region.wanted, hgd]
  rw [if_pos hw]
  unfold Oper.wp execOp
  simp only [ho, resolve, invoke, builtin, Sem.run_bind, Sem.run_pure, Result.andThen_ok, List.map_toArray, List.map_cons, List.map_nil, hs, hx, hrun]
  exact h
theorem wpList_append_run {ops : Array Oper} {rest : List Oper} {o : Oper} {a : Act} {w w' : World} {Q : Exit → Act → World → Prop} {v u v' : Value} (hgd : o.guard = none) (s x : Operand) (t : TypeId)
    (ho : o.op = .call { callee := .builtin .append, args := #[s, x], argTypes := #[t, t] }) (hs : a.eval s = v) (hx : a.eval x = u) (hrun : (Builtin.append_ #[t, t] o.type #[v, u]).run Tryd.prog w = .ok v' w') (h : wpList Tryd.prog ops Q rest (a.put o.dst v') w') :
    wpList Tryd.prog ops Q (o :: rest) a w :=
  wpList_plain hgd fun K hK => by
    unfold Oper.wp execOp
    simp only [ho, resolve, invoke, builtin, Sem.run_bind, Sem.run_pure, Result.andThen_ok, List.map_toArray, List.map_cons, List.map_nil, hs, hx, hrun]
    exact hK _ _ h
theorem sub_keys {l r : T} (h : ∀ p ∈ (T.node l r).leaves, 1 ≤ p.1.length) : (∀ p ∈ l.leaves, 1 ≤ p.1.length) ∧ (∀ p ∈ r.leaves, 1 ≤ p.1.length) ∧ 1 ≤ (T.node l r).key.length := by
  have h1 : ∀ p ∈ l.leaves ++ r.leaves, 1 ≤ p.1.length := h
  refine ⟨fun p hp => h1 p (List.mem_append_left _ hp), fun p hp => h1 p (List.mem_append_right _ hp), ?_⟩
  obtain ⟨v, x, hx⟩ := T.head_leaves r
  exact h1 (r.least, v) (List.mem_append_right _ (by rw [hx]; simp))

set_option maxRecDepth 100000 in
set_option maxHeartbeats 1000000 in
theorem down_some {G : Nat → Prop} (o : Option (Option T)) (p : Option Nat) (t : T) (ht : topOf o = some t) (A : Option Addr) (n c : Nat) (key : List UInt8) (w : World) (ho : GIn G w w.heap.size o p) (hkey : Rd w w.heap.size A n key) (hk1 : ∀ q ∈ t.leaves, 1 ≤ q.1.length) (htn : t.n ≤ 100000) :
    Calls Tryd.prog 16 #[ptr p, .slice A n c] w (DownPost (some t) key w) := by
  have hth : t.h ≤ 100000 := by have := T.h_lt t; omega
  have HTN := Lib.hid htn
  clear htn
  have HO := Lib.hid (And.intro ho ht)
  have HK := Lib.hid hkey
  have HK1 := Lib.hid hk1
  have hbz : ∀ w, (Instr.build 26 #[]).run Tryd.prog w = .ok (.agg #[.slice none 0 0, .slice none 0 0, .slice none 0 0]) w := fun w => run_build w 26 #[] _ (by kernel_rfl)
  have hb0 : Below w.heap.size w (w.alloc (.cells #[.slice none 0 0, .slice none 0 0, .slice none 0 0] 26)) := (Below.refl _ _).alloc (Nat.le_refl _) _
  have hw0 := Whole.made w 26 #[.slice none 0 0, .slice none 0 0, .slice none 0 0]
  have HS0 : Hid (DSt w (w.alloc (.cells #[.slice none 0 0, .slice none 0 0, .slice none 0 0] 26)) w.heap.size none (.slice none 0 0) [] (.slice none 0 0) [] (.slice none 0 0)) :=
    Lib.hid ⟨hw0, World.ownsRow_nil _ _ _ _, (fun x hx => by cases hx), World.ownsRow_nil _ _ _ _, (fun e => by cases e), (fun e => by cases e), (fun b e => by cases e), .inl ⟨rfl, rfl⟩, (fun b o n c e => by cases e), Nat.le_refl _, hb0⟩
  clear ho ht hkey hk1 hb0 hw0
  go_enter Tryd.func16, Tryd.ntmps16
  go_upto_region 2 with (fail)
  generalize w.alloc (.cells #[.slice none 0 0, .slice none 0 0, .slice none 0 0] 26) = w1 at *
  clear hbz
  obtain ⟨gp, hgp⟩ : ∃ gp, gp = w.heap.size := ⟨_, rfl⟩
  rw [← hgp] at HS0 ⊢
  clear hgp
  go_wp2_with fail
  go_loopg [4, 5, 6] t.h (fun gk s4 s5 s6 wx => ∃ s nx way ts vt, s4 = .pointer (some ⟨gp, 0, none⟩) ∧ DSt w wx gp nx s5 way s6 ts vt ∧ oat (some t) way = some s ∧ s.h ≤ gk ∧ way.length + s.h ≤ t.h ∧ ts.length = way.length ∧ ((∀ q ∈ s.leaves, 1 ≤ q.1.length) ∧ s.n ≤ t.n) ∧ turnsTo key t = ts ++ turnsTo key s ∧ leafOf key t = leafOf key s ∧ nextTo key t none = nextTo key s nx)
  case atStart => exact ⟨t, none, [], [], .slice none 0 0, rfl, HS0.out, oat_nil _, Nat.le_refl _, by simp, rfl, ⟨HK1.out, Nat.le_refl _⟩, rfl, rfl, rfl⟩
  case round =>
    obtain ⟨s, nx, way, ts, vt, rfl, hD, hat, hsh, hwl, htl, hsk, htt, hlf, hnx⟩ := hrel
    clear HS0
    obtain ⟨W, cw, rfl, hwc, _⟩ := own_form hD.wr
    have hsz := hD.bel.size
    have hN := way_any (G := G) o p W way.length cw way wr ((HO.out.1.below hD.bel (Nat.le_refl _)).more hsz) (RdV.of_own hD.wr) (by omega)
    rw [HO.out.2, hat] at hN
    have HN := Lib.hid hN
    have HLT : Hid (gp < wr.heap.size ∧ ∀ g, vt.ownBlock = some g → g < wr.heap.size) := Lib.hid ⟨hD.gw.lt, fun g hg => (own_lt hD.tr g hg).2⟩
    have HL6 : Hid (∀ g, (Value.slice W way.length cw).ownBlock = some g → g < wr.heap.size) := Lib.hid fun g hg => (own_lt hD.wr g hg).2
    have HWB : Hid (w.heap.size ≤ wr.heap.size) := Lib.hid hsz
    have HD := Lib.hid hD
    have HTL := Lib.hid htl
    clear htl
    have HA := Lib.hid (And.intro hat (And.intro hsk (And.intro htt (And.intro hlf hnx))))
    clear hD hat hsk htt hlf hnx hN
    go_wp2_with fail
    refine HN.out.mono ?_
    rintro e w2 (⟨h, _⟩ | ⟨s', cs, A1, n1, c1, A2, n2, c2, hs', rfl, hT, hb2⟩)
    · cases h
    injection hs' with hs'
    subst hs'
    have HT := Lib.hid hT
    have HB2 := Lib.hid hb2
    have hz64 := zero64
    have hs2 := hb2.size
    have hcs : cs.size = 68 ∧ cs.all (·.oneCell') = true := by
      rw [hT.eq]
      exact ⟨by rw [List.size_toArray]; exact acells_len _ _ _ _ _ _ (lsum32 _) (rsum32 _), acells_one ..⟩
    clear hT hb2 HN
    simp only []
    iterate 13 go_step
    clear hz64
    refine Sh.wpList_store_made rfl 67 (.tmp 7) (.tmp 16) rfl z64 cs rfl rfl ?_ ?_ hcs.2 ?_
    · rw [hcs.1]; exact info64
    · rw [hcs.1]; exact z64_size
    have hb3 : Below w2.heap.size w2 (w2.alloc (.cells cs 67)) := (Below.refl _ _).alloc (Nat.le_refl _) _
    have hw3 := Whole.made w2 67 cs
    obtain ⟨g7, hg7⟩ : ∃ g7, g7 = w2.heap.size := ⟨_, rfl⟩
    rw [← hg7] at hw3 ⊢
    have HB3 := Lib.hid (HB2.out.trans (hb3.mono hs2))
    have HT3 := Lib.hid (HT.out.below hb3)
    have HW3 := Lib.hid hw3
    have HD3 := Lib.hid (HD.out.on HB3.out)
    have hlt3 := hw3.lt
    have hg7w : wr.heap.size ≤ g7 := by omega
    clear hb3 hw3 HT HB2 HD hcs
    generalize w2.alloc (.cells cs 67) = w3 at *
    clear hg7 hs2
    have hcell : ∀ i v, (acells (.slice A1 n1 c1) (.slice A2 n2 c2) (s.h : Int) s.n s.lsum s.rsum)[i]? = some v → w3.cell? ⟨g7, i, none⟩ = some v := fun i v hv => HW3.out.at_ (by rw [HT3.out.eq, List.getElem?_toArray]; exact hv)
    have d0 := hcell 0 _ rfl
    have d1 := hcell 1 _ rfl
    have d2 := hcell 2 _ rfl
    have HCE := Lib.hid hcell
    clear hcell
    cases s with
    | leaf kk vv =>
      have e2 : w3.cell? ⟨g7, 2, none⟩ = some (.int .i64 0) := d2
      clear d2
      have hce : ∀ u, Whole u g7 67 cs → u.cell? ⟨g7, 0, none⟩ = some (.slice A1 n1 c1) ∧ u.cell? ⟨g7, 1, none⟩ = some (.slice A2 n2 c2) := fun u hu => ⟨hu.at_ (by rw [HT3.out.eq]; rfl), hu.at_ (by rw [HT3.out.eq]; rfl)⟩
      have HCC := Lib.hid hce
      have hGW : Whole w3.drew gp 26 #[.slice none 0 0, .slice none 0 0, vt] := HD3.out.gw
      have hVD : Whole w3.drew g7 67 cs := HW3.out
      have hkd : ∀ b : Nat, w3.drew.heap[b]? = w3.heap[b]? := fun _ => rfl
      have hzd : w3.drew.heap.size = w3.heap.size := rfl
      have hBD : Below w.heap.size w w3.drew := HD3.out.bel.drew
      have hgp7 : gp < wr.heap.size := HLT.out.1
      go_upto_region 7 with (fail)
      have hS0 : w3.drew.cell? ⟨g7, 0, none⟩ = some (.slice A1 n1 c1) ∧ w3.drew.cell? ⟨g7, 1, none⟩ = some (.slice A2 n2 c2) := hce w3.drew HW3.out
      refine wp_region_held_drew (S := fun u => u.cell? ⟨g7, 0, none⟩ = some (.slice A1 n1 c1) ∧ u.cell? ⟨g7, 1, none⟩ = some (.slice A2 n2 c2)) (by kernel_rfl) hS0 (fun hHeld => ?_)
      clear hS0
      generalize w3.drew = wd at *
      refine wpAnyH_take (i := 0) (oi := { dst := some 23, op := Op.move (Operand.tmp 4), type := 29, pos := "proof.go:50", after := #[], guard := none }) (v := ?_) rfl (by kernel_rfl) (by kernel_rfl) (by kernel_rfl) (fun _ _ _ h => h) (Or.inl ⟨by rfl, ?_⟩) (by assumption) ?_
      rotate_left
      · first | (intro w hSw; (try dsimp only at hSw); go_simp; done) | (intro w hSw; (try dsimp only at hSw); go_simp; with_reducible rfl)
      simp only [Act.put, List.setIfInBounds_toArray, List.set_cons_zero, List.set_cons_succ]
      refine wpAnyH_take (i := 1) (oi := { dst := some 24, op := Op.move (Operand.tmp 4), type := 29, pos := "proof.go:50", after := #[{ on := 8, ground := Ground.gcOnly Departure.lateStores }], guard := none }) (v := ?_) rfl (by kernel_rfl) (by kernel_rfl) (by kernel_rfl) (fun _ _ _ h => h) (Or.inl ⟨by rfl, ?_⟩) (by assumption) ?_
      rotate_left
      · first | (intro w hSw; (try dsimp only at hSw); go_simp; done) | (intro w hSw; (try dsimp only at hSw); go_simp; with_reducible rfl)
      simp only [Act.put, List.setIfInBounds_toArray, List.set_cons_zero, List.set_cons_succ]
      refine wpAnyH_take (i := 2) (oi := { dst := some 25, op := Op.fieldAddr 67 (Operand.tmp 7) 0, type := 0, pos := "proof.go:50", after := #[], guard := none }) (v := ?_) rfl (by kernel_rfl) (by kernel_rfl) (by kernel_rfl) (fun _ _ _ h => h) (Or.inl ⟨by rfl, ?_⟩) (by assumption) ?_
      rotate_left
      · first | (intro w hSw; (try dsimp only at hSw); go_simp; done) | (intro w hSw; (try dsimp only at hSw); go_simp; with_reducible rfl)
      simp only [Act.put, List.setIfInBounds_toArray, List.set_cons_zero, List.set_cons_succ]
      refine wpAnyH_take (i := 3) (oi := { dst := some 26, op := Op.load 22 (Operand.tmp 25), type := 22, pos := "proof.go:50", after := #[{ on := 2, ground := Ground.data }], guard := none }) (v := ?_) rfl (by kernel_rfl) (by kernel_rfl) (by kernel_rfl) (fun _ _ _ h => h) (Or.inl ⟨by rfl, ?_⟩) (by assumption) ?_
      rotate_left
      · first | (intro w hSw; (try dsimp only at hSw); go_simp; done) | (intro w hSw; (try dsimp only at hSw); go_simp; with_reducible rfl)
      simp only [Act.put, List.setIfInBounds_toArray, List.set_cons_zero, List.set_cons_succ]
      refine wpAnyH_take (i := 4) (oi := { dst := some 27, op := Op.fieldAddr 67 (Operand.tmp 7) 1, type := 0, pos := "proof.go:50", after := #[{ on := 8, ground := Ground.gcOnly Departure.lateStores }], guard := none }) (v := ?_) rfl (by kernel_rfl) (by kernel_rfl) (by kernel_rfl) (fun _ _ _ h => h) (Or.inl ⟨by rfl, ?_⟩) (by assumption) ?_
      rotate_left
      · first | (intro w hSw; (try dsimp only at hSw); go_simp; done) | (intro w hSw; (try dsimp only at hSw); go_simp; with_reducible rfl)
      simp only [Act.put, List.setIfInBounds_toArray, List.set_cons_zero, List.set_cons_succ]
      refine wpAnyH_take (i := 5) (oi := { dst := some 28, op := Op.load 22 (Operand.tmp 27), type := 22, pos := "proof.go:50", after := #[{ on := 4, ground := Ground.data }, { on := 8, ground := Ground.gcOnly Departure.lateStores }], guard := none }) (v := ?_) rfl (by kernel_rfl) (by kernel_rfl) (by kernel_rfl) (fun _ _ _ h => h) (Or.inl ⟨by rfl, ?_⟩) (by assumption) ?_
      rotate_left
      · first | (intro w hSw; (try dsimp only at hSw); go_simp; done) | (intro w hSw; (try dsimp only at hSw); go_simp; with_reducible rfl)
      simp only [Act.put, List.setIfInBounds_toArray, List.set_cons_zero, List.set_cons_succ]
      refine wpAnyH_take (i := 6) (oi := { dst := some 29, op := Op.nilCheck (Operand.tmp 23), type := 0, pos := "proof.go:50", after := #[{ on := 0, ground := Ground.data }, { on := 0, ground := Ground.phase }, { on := 1, ground := Ground.textOnly Departure.lateStores }, { on := 2, ground := Ground.phase }, { on := 3, ground := Ground.phase }, { on := 4, ground := Ground.textOnly Departure.lateStores }, { on := 5, ground := Ground.textOnly Departure.lateStores }], guard := none }) (v := ?_) rfl (by kernel_rfl) (by kernel_rfl) (by kernel_rfl) (fun _ _ _ h => h) (Or.inl ⟨by rfl, ?_⟩) (by assumption) ?_
      rotate_left
      · first | (intro w hSw; (try dsimp only at hSw); go_simp; done) | (intro w hSw; (try dsimp only at hSw); go_simp; with_reducible rfl)
      simp only [Act.put, List.setIfInBounds_toArray, List.set_cons_zero, List.set_cons_succ]
      refine wpAnyH_take (i := 7) (oi := { dst := some 30, op := Op.fieldAddr 26 (Operand.tmp 29) 0, type := 0, pos := "proof.go:50", after := #[{ on := 6, ground := Ground.data }, { on := 0, ground := Ground.phase }, { on := 1, ground := Ground.textOnly Departure.lateStores }, { on := 2, ground := Ground.phase }, { on := 3, ground := Ground.phase }, { on := 4, ground := Ground.textOnly Departure.lateStores }, { on := 5, ground := Ground.textOnly Departure.lateStores }], guard := none }) (v := ?_) rfl (by kernel_rfl) (by kernel_rfl) (by kernel_rfl) (fun _ _ _ h => h) (Or.inl ⟨by rfl, ?_⟩) (by assumption) ?_
      rotate_left
      · first | (intro w hSw; (try dsimp only at hSw); go_simp; done) | (intro w hSw; (try dsimp only at hSw); go_simp; with_reducible rfl)
      simp only [Act.put, List.setIfInBounds_toArray, List.set_cons_zero, List.set_cons_succ]
      have x0 := hGW.at_ (i := 0) (v := .slice none 0 0) rfl
      have f0 := hGW.free 0
      refine wpAnyH_ready (rs := [8]) (by kernel_rfl) (by simp) ?_
      refine AllReadyH.cons rfl (fun K hK => ?_) AllReadyH.nil
      go_simp
      have hW4 := hGW.set 0 (.slice A1 n1 c1)
      have hV4 : Whole (wd.setCell ⟨gp, 0, none⟩ (.slice A1 n1 c1)) g7 67 cs := hVD.other (p := ⟨gp, 0, none⟩) (by show g7 ≠ gp; omega) _
      have hk4 : ∀ b, b ≠ gp → (wd.setCell ⟨gp, 0, none⟩ (.slice A1 n1 c1)).heap[b]? = w3.heap[b]? := fun b hb => (Below.heap_setCell wd ⟨gp, 0, none⟩ _ b hb).trans (hkd b)
      have hz4 : (wd.setCell ⟨gp, 0, none⟩ (.slice A1 n1 c1)).heap.size = w3.heap.size := (World.size_setCell _ _ _).trans hzd
      have hB4 : Below w.heap.size w (wd.setCell ⟨gp, 0, none⟩ (.slice A1 n1 c1)) := hBD.setCell (p := ⟨gp, 0, none⟩) HD3.out.ge _
      refine hK.out _ _ (hce _ hV4) (fun _ => ?_)
      clear hK K hHeld x0 f0 hGW hVD hkd hzd hBD
      have hHeld := hce _ hV4
      generalize wd.setCell ⟨gp, 0, none⟩ (.slice A1 n1 c1) = w4 at *
      refine wpAnyH_take (i := 9) (oi := { dst := some 31, op := Op.nilCheck (Operand.tmp 24), type := 0, pos := "proof.go:50", after := #[{ on := 1, ground := Ground.data }, { on := 0, ground := Ground.phase }, { on := 1, ground := Ground.phase }, { on := 2, ground := Ground.phase }, { on := 3, ground := Ground.phase }, { on := 4, ground := Ground.phase }, { on := 5, ground := Ground.phase }, { on := 6, ground := Ground.phase }, { on := 7, ground := Ground.phase }, { on := 8, ground := Ground.phase }], guard := none }) (v := ?_) rfl (by kernel_rfl) (by kernel_rfl) (by kernel_rfl) (fun _ _ _ h => h) (Or.inl ⟨by rfl, ?_⟩) (by assumption) ?_
      rotate_left
      · first | (intro w hSw; (try dsimp only at hSw); go_simp; done) | (intro w hSw; (try dsimp only at hSw); go_simp; with_reducible rfl)
      simp only [Act.put, List.setIfInBounds_toArray, List.set_cons_zero, List.set_cons_succ]
      refine wpAnyH_take (i := 10) (oi := { dst := some 32, op := Op.fieldAddr 26 (Operand.tmp 31) 1, type := 0, pos := "proof.go:50", after := #[{ on := 9, ground := Ground.data }, { on := 0, ground := Ground.phase }, { on := 1, ground := Ground.phase }, { on := 2, ground := Ground.phase }, { on := 3, ground := Ground.phase }, { on := 4, ground := Ground.phase }, { on := 5, ground := Ground.phase }, { on := 6, ground := Ground.phase }, { on := 7, ground := Ground.phase }, { on := 8, ground := Ground.phase }], guard := none }) (v := ?_) rfl (by kernel_rfl) (by kernel_rfl) (by kernel_rfl) (fun _ _ _ h => h) (Or.inl ⟨by rfl, ?_⟩) (by assumption) ?_
      rotate_left
      · first | (intro w hSw; (try dsimp only at hSw); go_simp; done) | (intro w hSw; (try dsimp only at hSw); go_simp; with_reducible rfl)
      simp only [Act.put, List.setIfInBounds_toArray, List.set_cons_zero, List.set_cons_succ]
      have x1 := hW4.at_ (i := 1) (v := .slice none 0 0) rfl
      have f1 := hW4.free 1
      refine wpAnyH_ready (rs := [11]) (by kernel_rfl) (by simp) ?_
      refine AllReadyH.cons rfl (fun K hK => ?_) AllReadyH.nil
      go_simp
      have hW5 := hW4.set 1 (.slice A2 n2 c2)
      have hV5 : Whole (w4.setCell ⟨gp, 1, none⟩ (.slice A2 n2 c2)) g7 67 cs := hV4.other (p := ⟨gp, 1, none⟩) (by show g7 ≠ gp; omega) _
      have hk5 : ∀ b, b ≠ gp → (w4.setCell ⟨gp, 1, none⟩ (.slice A2 n2 c2)).heap[b]? = w3.heap[b]? := fun b hb => (Below.heap_setCell w4 ⟨gp, 1, none⟩ _ b hb).trans (hk4 b hb)
      have hz5 : (w4.setCell ⟨gp, 1, none⟩ (.slice A2 n2 c2)).heap.size = w3.heap.size := (World.size_setCell _ _ _).trans hz4
      have hB5 : Below w.heap.size w (w4.setCell ⟨gp, 1, none⟩ (.slice A2 n2 c2)) := hB4.setCell (p := ⟨gp, 1, none⟩) HD3.out.ge _
      refine hK.out _ _ (hce _ hV5) (fun _ => ?_)
      clear hK K hHeld x1 f1 hW4 hV4 hk4 hz4 hB4
      generalize w4.setCell ⟨gp, 1, none⟩ (.slice A2 n2 c2) = w5 at *
      refine wpAnyH_done (by kernel_rfl) ?_ _
      have HF := Lib.hid (And.intro hW5 (And.intro hk5 (And.intro hz5 hB5)))
      clear hW5 hV5 hk5 hz5 hB5 hce e2
      go_wp2_with fail
      go_ret2
      obtain ⟨hW5, hk5, hz5, hB5⟩ := HF.out
      obtain ⟨hat, hsk, htt, hlf, hnx⟩ := HA.out
      have hT := HT3.out
      have hD := HD3.out
      obtain ⟨T, k, hvt, hmk, _⟩ := own_form hD.tr
      refine .inr ⟨t, gp, _, u5, rfl, rfl, hW5, ?_, ?_, hD.ge, ?_, hB5⟩
      · refine ⟨A1, n1, c1, A2, n2, c2, T, ts.length, k, ?_, ?_, hT.knc, ?_, hT.vnc, ?_, hmk⟩
        · rw [← hvt]; rfl
        · show Rd w5 w5.heap.size A1 n1 (leafOf key t).key
          rw [hlf]
          exact rd_block hT.key (by omega) (fun b o e _ => hk5 b (by have := (hT.knew b o e).1; omega))
        · show Rd w5 w5.heap.size A2 n2 (leafOf key t).val
          rw [hlf]
          exact rd_block hT.val (by omega) (fun b o e _ => hk5 b (by have := (hT.vnew b o e).1; omega))
        · show TRd w5 w5.heap.size T ts.length (turnsTo key t)
          have h1 : turnsTo key t = ts := by rw [htt]; simp [turnsTo]
          rw [h1]
          have h2 := own_block hD.tr (w' := w5) fun g hg => hk5 g (fun e => by rw [e] at hg; exact hD.n1 hg)
          rw [hvt] at h2
          exact ⟨RdV.of_own h2, hD.t32⟩
      · rw [hnx]
        show NextR w5 nx u5
        rcases hD.nx with h | ⟨q, b, o, m, d, h1, h2, h3, h4, h5⟩
        · exact .inl h
        · refine .inr ⟨q, b, o, m, d, h1, h2, rd_block h3 (by omega) (fun b' o' e _ => ?_), h4, h5⟩
          injection e with e
          injection e with e _
          subst e
          exact hk5 b (hD.far b o m d h2).1
      · have hb := hD.bel.size
        have h0 := HWB.out
        intro i b o m d e
        match i, e with
        | 0, e =>
          injection e with e
          injection e with e1 _ _
          have := (hT.knew b o e1).1
          omega
        | 1, e =>
          injection e with e
          injection e with e1 _ _
          have := (hT.vnew b o e1).1
          omega
        | 2, e =>
          have e : some vt = some (.slice (some ⟨b, o, none⟩) m d) := e
          injection e with e
          rw [e] at hvt
          refine (own_lt hD.tr b ?_).1
          rw [e]
          have ho : o = 0 := by
            have h1 := hD.tr.2
            rcases h1 with ⟨h1, _⟩ | ⟨g1, cap, cur, h1, _⟩
            · rw [e] at h1; cases h1
            · rw [e] at h1; injection h1 with h1; injection h1 with h1; injection h1
          rw [ho]; rfl
        | (i + 3), e => simp at e
    | node l r =>
      obtain ⟨zh, hzh⟩ : ∃ z : Nat, (T.node l r).h = z := ⟨_, rfl⟩
      rw [hzh] at d2
      have hzp : ((zh : Int) == 0) = false := by rw [beq_eq_false_iff_ne]; have := h_node l r; omega
      obtain ⟨L, hL⟩ : ∃ L, acells (.slice A1 n1 c1) (.slice A2 n2 c2) ((T.node l r).h : Int) (T.node l r).n (T.node l r).lsum (T.node l r).rsum = L := ⟨_, rfl⟩
      have HLE := Lib.hid hL
      have hLs : L.length = 68 := by rw [← hL]; exact acells_len _ _ _ _ _ _ (lsum32 _) (rsum32 _)
      have HLI : Hid ((Tryd.prog.info? 67).map (·.size) = some L.length) := Lib.hid (by rw [hLs]; exact info64)
      have HRG : Hid (w3.rangeAt g7 0 L) := Lib.hid (by
        have h1 := HW3.out
        rw [HT3.out.eq, hL] at h1
        exact h1.range)
      have HNV : Hid (vt.ownBlock ≠ some g7) := Lib.hid (fun e => by have := HLT.out.2 g7 e; omega)
      have hkw : Rd w3 w3.heap.size A n key := (HK.out.below HD3.out.bel (Nat.le_refl _)).more HD3.out.bel.size
      have HCMP := Lib.hid (compare_any A A1 n c n1 c1 w3.heap.size w3.heap.size key (T.node l r).key w3 hkw HT3.out.key)
      have HZH := Lib.hid hzh
      clear hL hLs hkw hzh d1
      cases hlt : lt key (T.node l r).key with
      | true =>
        have hcd : decide (0 ≤ Lib.compareBytes key (T.node l r).key) = false := by rw [cmp_dec, hlt]; rfl
        go_wp2_with fail
        refine HCMP.out.mono ?_
        rintro e wq ⟨rfl, rfl⟩
        go_upto_region 12 with (fail)
        clear hcd
        have hS0 : w3.drew.cell? ⟨gp, 2, none⟩ = some vt ∧ w3.drew.rangeAt g7 0 L := ⟨HD3.out.gw.at_ rfl, HRG.out⟩
        refine wp_region_late (S := fun u => u.cell? ⟨gp, 2, none⟩ = some vt ∧ u.rangeAt g7 0 L) (late := (12 ≤ ·)) (by kernel_rfl) ?_
        refine wpLate_take (i := 0) (oi := { dst := some 44, op := Op.move (Operand.tmp 4), type := 29, pos := "proof.go:57", after := #[], guard := none }) (v := ?_) rfl (by kernel_rfl) (by kernel_rfl) (by kernel_rfl) (by kernel_rfl) (fun _ _ _ h => h) (Or.inl ⟨by rfl, ?_⟩) (by assumption) ?_
        rotate_left
        · first | (intro w hSw; (try dsimp only at hSw); go_simp; done) | (intro w hSw; (try dsimp only at hSw); go_simp; with_reducible rfl)
        simp only [Act.put, List.setIfInBounds_toArray, List.set_cons_zero, List.set_cons_succ]
        refine wpLate_take (i := 1) (oi := { dst := some 45, op := Op.move (Operand.tmp 4), type := 29, pos := "proof.go:57", after := #[], guard := none }) (v := ?_) rfl (by kernel_rfl) (by kernel_rfl) (by kernel_rfl) (by kernel_rfl) (fun _ _ _ h => h) (Or.inl ⟨by rfl, ?_⟩) (by assumption) ?_
        rotate_left
        · first | (intro w hSw; (try dsimp only at hSw); go_simp; done) | (intro w hSw; (try dsimp only at hSw); go_simp; with_reducible rfl)
        simp only [Act.put, List.setIfInBounds_toArray, List.set_cons_zero, List.set_cons_succ]
        refine wpLate_take (i := 2) (oi := { dst := some 46, op := Op.nilCheck (Operand.tmp 45), type := 0, pos := "proof.go:57", after := #[{ on := 1, ground := Ground.data }], guard := none }) (v := ?_) rfl (by kernel_rfl) (by kernel_rfl) (by kernel_rfl) (by kernel_rfl) (fun _ _ _ h => h) (Or.inl ⟨by rfl, ?_⟩) (by assumption) ?_
        rotate_left
        · first | (intro w hSw; (try dsimp only at hSw); go_simp; done) | (intro w hSw; (try dsimp only at hSw); go_simp; with_reducible rfl)
        simp only [Act.put, List.setIfInBounds_toArray, List.set_cons_zero, List.set_cons_succ]
        refine wpLate_take (i := 3) (oi := { dst := some 47, op := Op.fieldAddr 26 (Operand.tmp 46) 2, type := 0, pos := "proof.go:57", after := #[{ on := 2, ground := Ground.data }], guard := none }) (v := ?_) rfl (by kernel_rfl) (by kernel_rfl) (by kernel_rfl) (by kernel_rfl) (fun _ _ _ h => h) (Or.inl ⟨by rfl, ?_⟩) (by assumption) ?_
        rotate_left
        · first | (intro w hSw; (try dsimp only at hSw); go_simp; done) | (intro w hSw; (try dsimp only at hSw); go_simp; with_reducible rfl)
        simp only [Act.put, List.setIfInBounds_toArray, List.set_cons_zero, List.set_cons_succ]
        refine wpLate_take (i := 4) (oi := { dst := some 48, op := Op.load 24 (Operand.tmp 47), type := 24, pos := "proof.go:57", after := #[{ on := 3, ground := Ground.data }], guard := none }) (v := ?_) rfl (by kernel_rfl) (by kernel_rfl) (by kernel_rfl) (by kernel_rfl) (fun _ _ _ h => h) (Or.inl ⟨by rfl, ?_⟩) (by assumption) ?_
        rotate_left
        · first | (intro w hSw; (try dsimp only at hSw); go_simp; done) | (intro w hSw; (try dsimp only at hSw); go_simp; with_reducible rfl)
        simp only [Act.put, List.setIfInBounds_toArray, List.set_cons_zero, List.set_cons_succ]
        refine wpLate_take (i := 5) (oi := { dst := some 49, op := Op.load 67 (Operand.tmp 7), type := 67, pos := "proof.go:57", after := #[], guard := none }) (v := .agg L.toArray) rfl (by kernel_rfl) (by kernel_rfl) (by kernel_rfl) (by kernel_rfl) (fun _ _ _ h => h) (yieldsIf_load_mid (by rfl) 67 (.tmp 7) rfl g7 0 rfl L _ (fun _ h => h.2) Tryd.underlying67 rfl HLI.out) (by assumption) ?_
        simp only [Act.put, List.setIfInBounds_toArray, List.set_cons_zero, List.set_cons_succ]
        refine wpLate_take (i := 6) (oi := { dst := some 50, op := Op.move (Operand.tmp 9), type := 4, pos := "proof.go:57", after := #[], guard := none }) (v := ?_) rfl (by kernel_rfl) (by kernel_rfl) (by kernel_rfl) (by kernel_rfl) (fun _ _ _ h => h) (Or.inl ⟨by rfl, ?_⟩) (by assumption) ?_
        rotate_left
        · first | (intro w hSw; (try dsimp only at hSw); go_simp; done) | (intro w hSw; (try dsimp only at hSw); go_simp; with_reducible rfl)
        simp only [Act.put, List.setIfInBounds_toArray, List.set_cons_zero, List.set_cons_succ]
        have HTA := Lib.hid (turnAt_any (.slice A1 n1 c1) (.slice A2 n2 c2) ((T.node l r).h : Int) (T.node l r).n l.sum r.sum false w3.drew (sum32 l) (sum32 r))
        have hLL : (acells (.slice A1 n1 c1) (.slice A2 n2 c2) ((T.node l r).h : Int) (T.node l r).n l.sum r.sum).toArray = L.toArray := by rw [← HLE.out]; rfl
        rw [hLL] at HTA
        clear hLL
        refine wpLate_ready (rs := [7]) (by kernel_rfl) (by simp) ?_
        refine AllLate.cons rfl (fun K hK => ?_) AllLate.nil
        go_simp
        refine HTA.out.mono ?_
        rintro e w4 ⟨rfl, hb4⟩
        obtain ⟨x, hx⟩ : ∃ x : Tn, x = ⟨((T.node l r).h : Int), (T.node l r).n, false, r.sum⟩ := ⟨_, rfl⟩
        have hx' : (⟨((T.node l r).h : Int), (T.node l r).n, false, if (false : Bool) = true then l.sum else r.sum⟩ : Tn) = x := by rw [hx]; rfl
        rw [hx']
        have hxo : x.o.length = 32 := by rw [hx]; exact sum32 _
        have hxk : x.ok := ⟨hxo, by have h5 := HA.out.2.1.2; have h6 := HTN.out; rw [hx]; show (T.node l r).n < _; omega⟩
        have HXE := Lib.hid (And.intro hx hxk)
        clear hxk
        obtain ⟨Y, hY⟩ : ∃ Y, (tcells x).toArray = Y := ⟨_, rfl⟩
        have hYs : Y.size = 35 := by rw [← hY, List.size_toArray]; exact tcells_len x hxo
        rw [hY]
        have hb4' : Below w3.heap.size w3 w4 := ⟨hb4.os, hb4.tape, hb4.output, hb4.size, hb4.block⟩
        have hS4 : w4.cell? ⟨gp, 2, none⟩ = some vt ∧ w4.rangeAt g7 0 L := ⟨(hb4'.cell (p := ⟨gp, 2, none⟩) HD3.out.gw.lt).trans (HD3.out.gw.at_ rfl), range_keep HRG.out hb4' HW3.out.lt⟩
        refine hK.out _ _ (fun _ => hS4) ?_
        clear hK K hb4 hx hx' HTA hS0
        refine wpLate_ready (rs := [8]) (by kernel_rfl) (by simp) ?_
        refine AllLate.cons (o := { dst := some 52, op := Op.buildSlice 24 1 #[(0, Operand.tmp 51)], type := 24, pos := "proof.go:57", after := #[{ on := 7, ground := Ground.data }], guard := none }) rfl (fun K hK => ?_) AllLate.nil
        refine Eq.mpr (if_pos (by rfl)) ?_
        refine wp_build_turn (.tmp 51) rfl Y hYs rfl ?_
        have hb5 : Below w4.heap.size w4 (w4.alloc (.cells Y 46)) := (Below.refl _ _).alloc (Nat.le_refl _) _
        have hb35 : Below w3.heap.size w3 (w4.alloc (.cells Y 46)) := hb4'.trans (hb5.mono hb4'.size)
        have hw5 := Whole.made w4 46 Y
        have hS5 : (w4.alloc (.cells Y 46)).cell? ⟨gp, 2, none⟩ = some vt ∧ (w4.alloc (.cells Y 46)).rangeAt g7 0 L := ⟨(hb35.cell (p := ⟨gp, 2, none⟩) HD3.out.gw.lt).trans (HD3.out.gw.at_ rfl), range_keep HRG.out hb35 HW3.out.lt⟩
        refine hK.out _ _ (fun _ => hS5) ?_
        clear hK K hS4 hb5 hb4'
        generalize w4.alloc (.cells Y 46) = w5 at *
        have hlt5 := hw5.lt
        obtain ⟨g8, hg8⟩ : ∃ g8, g8 = w4.heap.size := ⟨_, rfl⟩
        rw [← hg8] at hw5 hlt5 ⊢
        have hr1 : RdV w5 w5.heap.size 35 (some ⟨g8, 0, none⟩) 1 (tcells x) := ⟨by rw [tcells_len x hxo], fun _ => ⟨g8, 0, rfl, hlt5, fun j u hu => by
          have h1 := hw5.at_ (i := j) (v := u) (by rw [← hY, List.getElem?_toArray]; exact hu)
          rw [Nat.zero_add]
          exact h1⟩⟩
        have hsz5 := hb35.size
        have hbe := HD3.out.bel.size
        have hts : ts.length ≤ 100000 := by have := HTL.out; omega
        obtain ⟨vt', w6, hrun, hown6, hgr6, hat6⟩ := run_append_rd w5 w.heap.size 24 24 46 (.agg zt) 35 56 Tryd.underlying24 info46r zt_size (by omega) vt ts.length (tl ts) (own_keep HD3.out.tr hb35) w5.heap.size (some ⟨g8, 0, none⟩) 1 1 (tcells x) hr1 (tcells_one x) (by unfold maxLen; omega) (by omega) (by omega)
        have HA6 := Lib.hid (And.intro hb35 (And.intro hown6 (And.intro hgr6 hat6)))
        have hg6 : w6.cell? ⟨gp, 2, none⟩ = some vt := (World.cell?_of_block (w := w5) (a := ⟨gp, 2, none⟩) (hgr6.block gp (by have := HD3.out.gw.lt; omega) (fun e => HD3.out.n1 e.symm))).trans hS5.1
        have hs6 : w6.rangeAt g7 0 L := fun j u hu => (World.cell?_of_block (w := w5) (a := ⟨g7, 0 + j, none⟩) (hgr6.block g7 (by have := HW3.out.lt; omega) (fun e => HNV.out e.symm))).trans (hS5.2 j u hu)
        have hf6 : w6.frozen? ⟨gp, 2, none⟩ = false := (World.frozen?_of_block (w := w5) (a := ⟨gp, 2, none⟩) (hgr6.block gp (by have := HD3.out.gw.lt; omega) (fun e => HD3.out.n1 e.symm))).trans ((HD3.out.gw.below hb35 HD3.out.gw.lt).free 2)
        refine wpLate_ready (rs := [9]) (by kernel_rfl) (by simp) ?_
        refine AllLate.cons (o := { dst := some 53, op := Op.call { callee := Callee.builtin Builtin.append, args := #[Operand.tmp 48, Operand.tmp 52], argTypes := #[24, 24] }, type := 24, pos := "proof.go:57", after := #[{ on := 4, ground := Ground.data }, { on := 8, ground := Ground.data }, { on := 7, ground := Ground.chain }], guard := none }) rfl (fun K hK => ?_) AllLate.nil
        refine step_append_run rfl (.tmp 48) (.tmp 52) 24 rfl rfl rfl hrun ?_
        have hS6 : w6.cell? ⟨gp, 2, none⟩ = some vt ∧ w6.rangeAt g7 0 L := ⟨hg6, hs6⟩
        refine hK.out _ _ (fun _ => hS6) ?_
        clear hK K hS5 hrun hr1 hw5 hown6 hgr6 hat6 hb35 hs6 hts
        refine wpLate_ready (rs := [10]) (by kernel_rfl) (by simp) ?_
        refine AllLate.cons rfl (fun K hK => ?_) AllLate.nil
        go_simp
        refine hK.out _ _ (fun _ => hS6) ?_
        clear hK K
        refine wpLate_take (i := 11) (oi := { dst := some 55, op := Op.fieldAddr 26 (Operand.tmp 54) 2, type := 0, pos := "proof.go:57", after := #[{ on := 10, ground := Ground.data }, { on := 0, ground := Ground.phase }, { on := 1, ground := Ground.phase }, { on := 2, ground := Ground.phase }, { on := 3, ground := Ground.phase }, { on := 4, ground := Ground.phase }, { on := 5, ground := Ground.phase }, { on := 6, ground := Ground.phase }, { on := 7, ground := Ground.phase }, { on := 8, ground := Ground.phase }, { on := 9, ground := Ground.phase }], guard := none }) (v := ?_) rfl (by kernel_rfl) (by kernel_rfl) (by kernel_rfl) (by kernel_rfl) (fun _ _ _ h => h) (Or.inl ⟨by rfl, ?_⟩) (by assumption) ?_
        rotate_left
        · first | (intro w hSw; (try dsimp only at hSw); go_simp; done) | (intro w hSw; (try dsimp only at hSw); go_simp; with_reducible rfl)
        simp only [Act.put, List.setIfInBounds_toArray, List.set_cons_zero, List.set_cons_succ]
        refine wpLate_ready (rs := [12]) (by kernel_rfl) (by simp) ?_
        refine AllLate.cons rfl (fun K hK => ?_) AllLate.nil
        have hvt' : vt'.oneCell' = true := by obtain ⟨T', k', e', _, _⟩ := own_form HA6.out.2.1; rw [e']; rfl
        obtain ⟨T', k', e', _, _⟩ := own_form HA6.out.2.1
        subst e'
        go_simp
        refine hK.out _ _ (fun h => absurd h (by decide)) ?_
        clear hK K
        refine wpLate_done (by kernel_rfl) ?_ _
        obtain ⟨hb35, hown6, hgr6, hat6⟩ := HA6.out
        have hz7 : (w6.setCell ⟨gp, 2, none⟩ (.slice T' (ts.length + 1) k')).heap.size = w6.heap.size := World.size_setCell _ _ _
        have HH7 : Hid (∃ w7, w7 = w6.setCell ⟨gp, 2, none⟩ (.slice T' (ts.length + 1) k')) := Lib.hid ⟨_, rfl⟩
        obtain ⟨w7, hw7⟩ := HH7.out
        rw [← hw7] at hz7 ⊢
        have hb8 : Below w7.heap.size w7 (w7.alloc (.cells #[.bool false] 4)) := (Below.refl _ _).alloc (Nat.le_refl _) _
        have hw8 := Whole.made w7 4 #[.bool false]
        obtain ⟨g9, hg9⟩ : ∃ g9, g9 = w7.heap.size := ⟨_, rfl⟩
        have h4 : Below w6.heap.size (w6.setCell ⟨gp, 2, none⟩ (.slice T' (ts.length + 1) k')) (w7.alloc (.cells #[.bool false] 4)) := by rw [← hw7, ← hz7]; exact hb8
        have hs8 : (w7.alloc (.cells #[.bool false] 4)).heap.size = w7.heap.size + 1 := size_alloc _ _
        have o4 := HD3.out.way4 hb35 hgr6 h4
        have hr2 : RdV (w7.alloc (.cells #[.bool false] 4)) (w7.alloc (.cells #[.bool false] 4)).heap.size 1 (some ⟨g9, 0, none⟩) 1 [Value.bool false] := ⟨rfl, fun _ => ⟨g9, 0, rfl, by omega, fun j u hu => by
          rw [Nat.zero_add, hg9]
          exact hw8.at_ (by rw [List.getElem?_toArray]; exact hu)⟩⟩
        have hsz6 := hgr6.size
        have hwl2 : way.length ≤ 100000 := by omega
        obtain ⟨v6', w9, hrun2, hown9, hgr9, hat9⟩ := run_append_rd (w7.alloc (.cells #[.bool false] 4)) w.heap.size 81 81 4 (.bool false) 1 1 Tryd.underlying81 info4w rfl (by omega) (.slice W way.length cw) way.length (way.map Value.bool) o4 _ (some ⟨g9, 0, none⟩) 1 1 [Value.bool false] hr2 (fun u hu => by rw [List.mem_singleton.1 hu]; rfl) (by unfold maxLen; omega) (by omega) (by omega)
        have HST : Hid (DSt w w9 gp (some (T.node l r).key) (.slice A1 n1 c1) (way ++ [false]) v6' (ts ++ [x]) (.slice T' (ts.length + 1) k')) := Lib.hid (by
          refine HD3.out.step x HXE.out.2 false ?_ ?_ hb35 hown6 hgr6 hat6 h4 hown9 hgr9 hat9
          · obtain ⟨b1, o1, e1, _, _⟩ := HT3.out.key.2 (by have h1 := HT3.out.key.1; have h2 := (sub_keys HA.out.2.1.1).2.2; simp at h1; omega)
            refine .inr ⟨_, b1, o1, n1, c1, rfl, by rw [e1], by rw [← e1]; exact HT3.out.key, HT3.out.knc, by have h1 := HT3.out.key.1; have h2 := (sub_keys HA.out.2.1.1).2.2; simp at h1; omega⟩
          · intro b o n c e
            injection e with e _ _
            have h1 := (HT3.out.knew b o e).1
            have h2 := HLT.out
            have h3 := HL6.out
            refine ⟨by omega, fun k => by have := h2.2 b k; omega, fun k => by have := h3 b k; omega⟩
          )
        clear hown6 hgr6 hat6 h4 o4 hr2 hown9 hgr9 hat9 hb35 hw8 hb8 hsz6 HH7 hw7 HA6 hg6 hf6
        rw [hg9] at hrun2
        clear hg9 hz7 hs8
        go_upto_region 13 with (fail)
        refine wp_region_lit ?_
        iterate 9 go_step
        refine wpList_append_run rfl (.tmp 56) (.tmp 58) 81 rfl rfl rfl hrun2 ?_
        go_wp2_with fail
        go_roundg (zh - 1)
        case measure => have h1 := HZH.out; have h2 := h_node l r; omega
        case rel =>
          obtain ⟨hat, hsk, htt, hlf, hnx⟩ := HA.out
          have h1 := HZH.out
          have h2 := h_node l r
          have h3 : l.h ≤ max l.h r.h := by omega
          have h4 := HTL.out
          refine ⟨l, (some (T.node l r).key), way ++ [false], ts ++ [x], _, rfl, HST.out, ?_, by omega, by rw [List.length_append]; simp only [List.length_cons, List.length_nil]; omega, by rw [List.length_append, List.length_append, h4]; rfl, ?_, ?_, ?_, ?_⟩
          · have := oat_snoc t way l r false hat
            exact this
          · exact ⟨(sub_keys hsk.1).1, by have h5 : l.n + r.n ≤ t.n := hsk.2; omega⟩
          · rw [htt, HXE.out.1]
            simp [turnsTo, hlt]
          · rw [hlf]
            simp [leafOf, hlt]
          · rw [hnx]
            simp [nextTo, hlt]
      | false =>
        have hcd : decide (0 ≤ Lib.compareBytes key (T.node l r).key) = true := by rw [cmp_dec, hlt]; rfl
        go_wp2_with fail
        refine HCMP.out.mono ?_
        rintro e wq ⟨rfl, rfl⟩
        go_upto_region 12 with (fail)
        clear hcd
        have hS0 : w3.drew.cell? ⟨gp, 2, none⟩ = some vt ∧ w3.drew.rangeAt g7 0 L := ⟨HD3.out.gw.at_ rfl, HRG.out⟩
        refine wp_region_late (S := fun u => u.cell? ⟨gp, 2, none⟩ = some vt ∧ u.rangeAt g7 0 L) (late := (12 ≤ ·)) (by kernel_rfl) ?_
        refine wpLate_take (i := 0) (oi := { dst := some 44, op := Op.move (Operand.tmp 4), type := 29, pos := "proof.go:57", after := #[], guard := none }) (v := ?_) rfl (by kernel_rfl) (by kernel_rfl) (by kernel_rfl) (by kernel_rfl) (fun _ _ _ h => h) (Or.inl ⟨by rfl, ?_⟩) (by assumption) ?_
        rotate_left
        · first | (intro w hSw; (try dsimp only at hSw); go_simp; done) | (intro w hSw; (try dsimp only at hSw); go_simp; with_reducible rfl)
        simp only [Act.put, List.setIfInBounds_toArray, List.set_cons_zero, List.set_cons_succ]
        refine wpLate_take (i := 1) (oi := { dst := some 45, op := Op.move (Operand.tmp 4), type := 29, pos := "proof.go:57", after := #[], guard := none }) (v := ?_) rfl (by kernel_rfl) (by kernel_rfl) (by kernel_rfl) (by kernel_rfl) (fun _ _ _ h => h) (Or.inl ⟨by rfl, ?_⟩) (by assumption) ?_
        rotate_left
        · first | (intro w hSw; (try dsimp only at hSw); go_simp; done) | (intro w hSw; (try dsimp only at hSw); go_simp; with_reducible rfl)
        simp only [Act.put, List.setIfInBounds_toArray, List.set_cons_zero, List.set_cons_succ]
        refine wpLate_take (i := 2) (oi := { dst := some 46, op := Op.nilCheck (Operand.tmp 45), type := 0, pos := "proof.go:57", after := #[{ on := 1, ground := Ground.data }], guard := none }) (v := ?_) rfl (by kernel_rfl) (by kernel_rfl) (by kernel_rfl) (by kernel_rfl) (fun _ _ _ h => h) (Or.inl ⟨by rfl, ?_⟩) (by assumption) ?_
        rotate_left
        · first | (intro w hSw; (try dsimp only at hSw); go_simp; done) | (intro w hSw; (try dsimp only at hSw); go_simp; with_reducible rfl)
        simp only [Act.put, List.setIfInBounds_toArray, List.set_cons_zero, List.set_cons_succ]
        refine wpLate_take (i := 3) (oi := { dst := some 47, op := Op.fieldAddr 26 (Operand.tmp 46) 2, type := 0, pos := "proof.go:57", after := #[{ on := 2, ground := Ground.data }], guard := none }) (v := ?_) rfl (by kernel_rfl) (by kernel_rfl) (by kernel_rfl) (by kernel_rfl) (fun _ _ _ h => h) (Or.inl ⟨by rfl, ?_⟩) (by assumption) ?_
        rotate_left
        · first | (intro w hSw; (try dsimp only at hSw); go_simp; done) | (intro w hSw; (try dsimp only at hSw); go_simp; with_reducible rfl)
        simp only [Act.put, List.setIfInBounds_toArray, List.set_cons_zero, List.set_cons_succ]
        refine wpLate_take (i := 4) (oi := { dst := some 48, op := Op.load 24 (Operand.tmp 47), type := 24, pos := "proof.go:57", after := #[{ on := 3, ground := Ground.data }], guard := none }) (v := ?_) rfl (by kernel_rfl) (by kernel_rfl) (by kernel_rfl) (by kernel_rfl) (fun _ _ _ h => h) (Or.inl ⟨by rfl, ?_⟩) (by assumption) ?_
        rotate_left
        · first | (intro w hSw; (try dsimp only at hSw); go_simp; done) | (intro w hSw; (try dsimp only at hSw); go_simp; with_reducible rfl)
        simp only [Act.put, List.setIfInBounds_toArray, List.set_cons_zero, List.set_cons_succ]
        refine wpLate_take (i := 5) (oi := { dst := some 49, op := Op.load 67 (Operand.tmp 7), type := 67, pos := "proof.go:57", after := #[], guard := none }) (v := .agg L.toArray) rfl (by kernel_rfl) (by kernel_rfl) (by kernel_rfl) (by kernel_rfl) (fun _ _ _ h => h) (yieldsIf_load_mid (by rfl) 67 (.tmp 7) rfl g7 0 rfl L _ (fun _ h => h.2) Tryd.underlying67 rfl HLI.out) (by assumption) ?_
        simp only [Act.put, List.setIfInBounds_toArray, List.set_cons_zero, List.set_cons_succ]
        refine wpLate_take (i := 6) (oi := { dst := some 50, op := Op.move (Operand.tmp 9), type := 4, pos := "proof.go:57", after := #[], guard := none }) (v := ?_) rfl (by kernel_rfl) (by kernel_rfl) (by kernel_rfl) (by kernel_rfl) (fun _ _ _ h => h) (Or.inl ⟨by rfl, ?_⟩) (by assumption) ?_
        rotate_left
        · first | (intro w hSw; (try dsimp only at hSw); go_simp; done) | (intro w hSw; (try dsimp only at hSw); go_simp; with_reducible rfl)
        simp only [Act.put, List.setIfInBounds_toArray, List.set_cons_zero, List.set_cons_succ]
        have HTA := Lib.hid (turnAt_any (.slice A1 n1 c1) (.slice A2 n2 c2) ((T.node l r).h : Int) (T.node l r).n l.sum r.sum true w3.drew (sum32 l) (sum32 r))
        have hLL : (acells (.slice A1 n1 c1) (.slice A2 n2 c2) ((T.node l r).h : Int) (T.node l r).n l.sum r.sum).toArray = L.toArray := by rw [← HLE.out]; rfl
        rw [hLL] at HTA
        clear hLL
        refine wpLate_ready (rs := [7]) (by kernel_rfl) (by simp) ?_
        refine AllLate.cons rfl (fun K hK => ?_) AllLate.nil
        go_simp
        refine HTA.out.mono ?_
        rintro e w4 ⟨rfl, hb4⟩
        obtain ⟨x, hx⟩ : ∃ x : Tn, x = ⟨((T.node l r).h : Int), (T.node l r).n, true, l.sum⟩ := ⟨_, rfl⟩
        have hx' : (⟨((T.node l r).h : Int), (T.node l r).n, true, if (true : Bool) = true then l.sum else r.sum⟩ : Tn) = x := by rw [hx]; rfl
        rw [hx']
        have hxo : x.o.length = 32 := by rw [hx]; exact sum32 _
        have hxk : x.ok := ⟨hxo, by have h5 := HA.out.2.1.2; have h6 := HTN.out; rw [hx]; show (T.node l r).n < _; omega⟩
        have HXE := Lib.hid (And.intro hx hxk)
        clear hxk
        obtain ⟨Y, hY⟩ : ∃ Y, (tcells x).toArray = Y := ⟨_, rfl⟩
        have hYs : Y.size = 35 := by rw [← hY, List.size_toArray]; exact tcells_len x hxo
        rw [hY]
        have hb4' : Below w3.heap.size w3 w4 := ⟨hb4.os, hb4.tape, hb4.output, hb4.size, hb4.block⟩
        have hS4 : w4.cell? ⟨gp, 2, none⟩ = some vt ∧ w4.rangeAt g7 0 L := ⟨(hb4'.cell (p := ⟨gp, 2, none⟩) HD3.out.gw.lt).trans (HD3.out.gw.at_ rfl), range_keep HRG.out hb4' HW3.out.lt⟩
        refine hK.out _ _ (fun _ => hS4) ?_
        clear hK K hb4 hx hx' HTA hS0
        refine wpLate_ready (rs := [8]) (by kernel_rfl) (by simp) ?_
        refine AllLate.cons (o := { dst := some 52, op := Op.buildSlice 24 1 #[(0, Operand.tmp 51)], type := 24, pos := "proof.go:57", after := #[{ on := 7, ground := Ground.data }], guard := none }) rfl (fun K hK => ?_) AllLate.nil
        refine Eq.mpr (if_pos (by rfl)) ?_
        refine wp_build_turn (.tmp 51) rfl Y hYs rfl ?_
        have hb5 : Below w4.heap.size w4 (w4.alloc (.cells Y 46)) := (Below.refl _ _).alloc (Nat.le_refl _) _
        have hb35 : Below w3.heap.size w3 (w4.alloc (.cells Y 46)) := hb4'.trans (hb5.mono hb4'.size)
        have hw5 := Whole.made w4 46 Y
        have hS5 : (w4.alloc (.cells Y 46)).cell? ⟨gp, 2, none⟩ = some vt ∧ (w4.alloc (.cells Y 46)).rangeAt g7 0 L := ⟨(hb35.cell (p := ⟨gp, 2, none⟩) HD3.out.gw.lt).trans (HD3.out.gw.at_ rfl), range_keep HRG.out hb35 HW3.out.lt⟩
        refine hK.out _ _ (fun _ => hS5) ?_
        clear hK K hS4 hb5 hb4'
        generalize w4.alloc (.cells Y 46) = w5 at *
        have hlt5 := hw5.lt
        obtain ⟨g8, hg8⟩ : ∃ g8, g8 = w4.heap.size := ⟨_, rfl⟩
        rw [← hg8] at hw5 hlt5 ⊢
        have hr1 : RdV w5 w5.heap.size 35 (some ⟨g8, 0, none⟩) 1 (tcells x) := ⟨by rw [tcells_len x hxo], fun _ => ⟨g8, 0, rfl, hlt5, fun j u hu => by
          have h1 := hw5.at_ (i := j) (v := u) (by rw [← hY, List.getElem?_toArray]; exact hu)
          rw [Nat.zero_add]
          exact h1⟩⟩
        have hsz5 := hb35.size
        have hbe := HD3.out.bel.size
        have hts : ts.length ≤ 100000 := by have := HTL.out; omega
        obtain ⟨vt', w6, hrun, hown6, hgr6, hat6⟩ := run_append_rd w5 w.heap.size 24 24 46 (.agg zt) 35 56 Tryd.underlying24 info46r zt_size (by omega) vt ts.length (tl ts) (own_keep HD3.out.tr hb35) w5.heap.size (some ⟨g8, 0, none⟩) 1 1 (tcells x) hr1 (tcells_one x) (by unfold maxLen; omega) (by omega) (by omega)
        have HA6 := Lib.hid (And.intro hb35 (And.intro hown6 (And.intro hgr6 hat6)))
        have hg6 : w6.cell? ⟨gp, 2, none⟩ = some vt := (World.cell?_of_block (w := w5) (a := ⟨gp, 2, none⟩) (hgr6.block gp (by have := HD3.out.gw.lt; omega) (fun e => HD3.out.n1 e.symm))).trans hS5.1
        have hs6 : w6.rangeAt g7 0 L := fun j u hu => (World.cell?_of_block (w := w5) (a := ⟨g7, 0 + j, none⟩) (hgr6.block g7 (by have := HW3.out.lt; omega) (fun e => HNV.out e.symm))).trans (hS5.2 j u hu)
        have hf6 : w6.frozen? ⟨gp, 2, none⟩ = false := (World.frozen?_of_block (w := w5) (a := ⟨gp, 2, none⟩) (hgr6.block gp (by have := HD3.out.gw.lt; omega) (fun e => HD3.out.n1 e.symm))).trans ((HD3.out.gw.below hb35 HD3.out.gw.lt).free 2)
        refine wpLate_ready (rs := [9]) (by kernel_rfl) (by simp) ?_
        refine AllLate.cons (o := { dst := some 53, op := Op.call { callee := Callee.builtin Builtin.append, args := #[Operand.tmp 48, Operand.tmp 52], argTypes := #[24, 24] }, type := 24, pos := "proof.go:57", after := #[{ on := 4, ground := Ground.data }, { on := 8, ground := Ground.data }, { on := 7, ground := Ground.chain }], guard := none }) rfl (fun K hK => ?_) AllLate.nil
        refine step_append_run rfl (.tmp 48) (.tmp 52) 24 rfl rfl rfl hrun ?_
        have hS6 : w6.cell? ⟨gp, 2, none⟩ = some vt ∧ w6.rangeAt g7 0 L := ⟨hg6, hs6⟩
        refine hK.out _ _ (fun _ => hS6) ?_
        clear hK K hS5 hrun hr1 hw5 hown6 hgr6 hat6 hb35 hs6 hts
        refine wpLate_ready (rs := [10]) (by kernel_rfl) (by simp) ?_
        refine AllLate.cons rfl (fun K hK => ?_) AllLate.nil
        go_simp
        refine hK.out _ _ (fun _ => hS6) ?_
        clear hK K
        refine wpLate_take (i := 11) (oi := { dst := some 55, op := Op.fieldAddr 26 (Operand.tmp 54) 2, type := 0, pos := "proof.go:57", after := #[{ on := 10, ground := Ground.data }, { on := 0, ground := Ground.phase }, { on := 1, ground := Ground.phase }, { on := 2, ground := Ground.phase }, { on := 3, ground := Ground.phase }, { on := 4, ground := Ground.phase }, { on := 5, ground := Ground.phase }, { on := 6, ground := Ground.phase }, { on := 7, ground := Ground.phase }, { on := 8, ground := Ground.phase }, { on := 9, ground := Ground.phase }], guard := none }) (v := ?_) rfl (by kernel_rfl) (by kernel_rfl) (by kernel_rfl) (by kernel_rfl) (fun _ _ _ h => h) (Or.inl ⟨by rfl, ?_⟩) (by assumption) ?_
        rotate_left
        · first | (intro w hSw; (try dsimp only at hSw); go_simp; done) | (intro w hSw; (try dsimp only at hSw); go_simp; with_reducible rfl)
        simp only [Act.put, List.setIfInBounds_toArray, List.set_cons_zero, List.set_cons_succ]
        refine wpLate_ready (rs := [12]) (by kernel_rfl) (by simp) ?_
        refine AllLate.cons rfl (fun K hK => ?_) AllLate.nil
        have hvt' : vt'.oneCell' = true := by obtain ⟨T', k', e', _, _⟩ := own_form HA6.out.2.1; rw [e']; rfl
        obtain ⟨T', k', e', _, _⟩ := own_form HA6.out.2.1
        subst e'
        go_simp
        refine hK.out _ _ (fun h => absurd h (by decide)) ?_
        clear hK K
        refine wpLate_done (by kernel_rfl) ?_ _
        obtain ⟨hb35, hown6, hgr6, hat6⟩ := HA6.out
        have hz7 : (w6.setCell ⟨gp, 2, none⟩ (.slice T' (ts.length + 1) k')).heap.size = w6.heap.size := World.size_setCell _ _ _
        have HH7 : Hid (∃ w7, w7 = w6.setCell ⟨gp, 2, none⟩ (.slice T' (ts.length + 1) k')) := Lib.hid ⟨_, rfl⟩
        obtain ⟨w7, hw7⟩ := HH7.out
        rw [← hw7] at hz7 ⊢
        have hb8 : Below w7.heap.size w7 (w7.alloc (.cells #[.bool true] 4)) := (Below.refl _ _).alloc (Nat.le_refl _) _
        have hw8 := Whole.made w7 4 #[.bool true]
        obtain ⟨g9, hg9⟩ : ∃ g9, g9 = w7.heap.size := ⟨_, rfl⟩
        have h4 : Below w6.heap.size (w6.setCell ⟨gp, 2, none⟩ (.slice T' (ts.length + 1) k')) (w7.alloc (.cells #[.bool true] 4)) := by rw [← hw7, ← hz7]; exact hb8
        have hs8 : (w7.alloc (.cells #[.bool true] 4)).heap.size = w7.heap.size + 1 := size_alloc _ _
        have o4 := HD3.out.way4 hb35 hgr6 h4
        have hr2 : RdV (w7.alloc (.cells #[.bool true] 4)) (w7.alloc (.cells #[.bool true] 4)).heap.size 1 (some ⟨g9, 0, none⟩) 1 [Value.bool true] := ⟨rfl, fun _ => ⟨g9, 0, rfl, by omega, fun j u hu => by
          rw [Nat.zero_add, hg9]
          exact hw8.at_ (by rw [List.getElem?_toArray]; exact hu)⟩⟩
        have hsz6 := hgr6.size
        have hwl2 : way.length ≤ 100000 := by omega
        obtain ⟨v6', w9, hrun2, hown9, hgr9, hat9⟩ := run_append_rd (w7.alloc (.cells #[.bool true] 4)) w.heap.size 81 81 4 (.bool false) 1 1 Tryd.underlying81 info4w rfl (by omega) (.slice W way.length cw) way.length (way.map Value.bool) o4 _ (some ⟨g9, 0, none⟩) 1 1 [Value.bool true] hr2 (fun u hu => by rw [List.mem_singleton.1 hu]; rfl) (by unfold maxLen; omega) (by omega) (by omega)
        have HST : Hid (DSt w w9 gp nx u5 (way ++ [true]) v6' (ts ++ [x]) (.slice T' (ts.length + 1) k')) := Lib.hid (by
          refine HD3.out.step x HXE.out.2 true ?_ ?_ hb35 hown6 hgr6 hat6 h4 hown9 hgr9 hat9
          · exact HD3.out.nx
          · exact HD3.out.far
          )
        clear hown6 hgr6 hat6 h4 o4 hr2 hown9 hgr9 hat9 hb35 hw8 hb8 hsz6 HH7 hw7 HA6 hg6 hf6
        rw [hg9] at hrun2
        clear hg9 hz7 hs8
        go_upto_region 13 with (fail)
        refine wp_region_lit ?_
        iterate 9 go_step
        refine wpList_append_run rfl (.tmp 56) (.tmp 58) 81 rfl rfl rfl hrun2 ?_
        go_wp2_with fail
        go_roundg (zh - 1)
        case measure => have h1 := HZH.out; have h2 := h_node l r; omega
        case rel =>
          obtain ⟨hat, hsk, htt, hlf, hnx⟩ := HA.out
          have h1 := HZH.out
          have h2 := h_node l r
          have h3 : r.h ≤ max l.h r.h := by omega
          have h4 := HTL.out
          refine ⟨r, nx, way ++ [true], ts ++ [x], _, rfl, HST.out, ?_, by omega, by rw [List.length_append]; simp only [List.length_cons, List.length_nil]; omega, by rw [List.length_append, List.length_append, h4]; rfl, ?_, ?_, ?_, ?_⟩
          · have := oat_snoc t way l r true hat
            exact this
          · exact ⟨(sub_keys hsk.1).2.1, by have h5 : l.n + r.n ≤ t.n := hsk.2; omega⟩
          · rw [htt, HXE.out.1]
            simp [turnsTo, hlt]
          · rw [hlf]
            simp [leafOf, hlt]
          · rw [hnx]
            simp [nextTo, hlt]
end Go.Proofs.YtehmkkccnadhoaaDoor
namespace Go.Proofs.YtehmkkccnadhoaaDoor
open Go.RowKit
open Tr

/-- The Height of the node below. -/
def hd : List Tn → Int
  | [] => 0
  | x :: _ => x.h
/-- Are all Heights right? -/
def okT : List Tn → Bool
  | [] => true
  | x :: ts => okT ts && decide (hd ts < x.h) && decide (x.h ≤ 64)
theorem okT_drop : ∀ (ts : List Tn) (i : Nat), okT ts = true → okT (ts.drop i) = true
  | ts, 0, h => h
  | [], i + 1, _ => rfl
  | x :: ts, i + 1, h => by
    rw [List.drop_succ_cons]
    refine okT_drop ts i ?_
    simp only [okT, Bool.and_eq_true] at h
    exact h.1.1
theorem drop_at {ts : List Tn} {i : Nat} {x : Tn} (h : ts[i]? = some x) : ts.drop i = x :: ts.drop (i + 1) := by
  obtain ⟨h1, h2⟩ := List.getElem?_eq_some_iff.1 h
  rw [← h2]
  exact List.drop_eq_getElem_cons h1
/-- The cells of a turn in a row. -/
theorem tl_at : ∀ (ts : List Tn) (i : Nat) (x : Tn), (∀ y ∈ ts, y.ok) → ts[i]? = some x → ∀ (k : Nat) (u : Value), (tcells x)[k]? = some u → (tl ts)[i * 35 + k]? = some u
  | [], i, x, _, h, _, _, _ => by simp at h
  | y :: ts, 0, x, ho, h, k, u, hu => by
    simp at h
    subst h
    have hl := (List.getElem?_eq_some_iff.1 hu).1
    rw [Nat.zero_mul, Nat.zero_add]
    simp only [tl, List.map_cons, List.flatten_cons]
    rw [List.getElem?_append_left hl]
    exact hu
  | y :: ts, i + 1, x, ho, h, k, u, hu => by
    rw [List.getElem?_cons_succ] at h
    have ih := tl_at ts i x (fun z hz => ho z (by simp [hz])) h k u hu
    have hl := tcells_len y (ho y (by simp)).1
    simp only [tl, List.map_cons, List.flatten_cons] at ih ⊢
    rw [List.getElem?_append_right (by omega), hl, show (i + 1) * 35 + k - 35 = i * 35 + k by omega]
    exact ih
theorem TRd.at_ {w : World} {B n : Nat} {A : Option Addr} {ts : List Tn} (h : TRd w B A n ts) {i : Nat} {x : Tn} (hx : ts[i]? = some x) : ∃ b o, A = some ⟨b, o, none⟩ ∧ b < B ∧ w.rangeAt b (o + i * 35) (tcells x) ∧ x.ok := by
  have hl := (List.getElem?_eq_some_iff.1 hx).1
  have h1 := h.len
  obtain ⟨b, o, e, hb, hc⟩ := h.1.2 (by omega)
  refine ⟨b, o, e, hb, fun k u hu => ?_, h.2 x (List.mem_of_getElem? hx)⟩
  rw [Nat.add_assoc]
  exact hc _ _ (tl_at ts i x h.2 hx k u hu)

set_option maxRecDepth 100000 in
set_option maxHeartbeats 600000 in
theorem wrong_any (A : Option Addr) (n c : Nat) (ts : List Tn) (w : World) (hr : TRd w w.heap.size A n ts) (hn : n ≤ 9223372036854775807) :
    Calls Tryd.prog 23 #[.slice A n c] w fun e w' => (∃ r : Int, e = .returned (.int .i64 r) ∧ decide (0 ≤ r) = !okT ts) ∧ w = w' := by
  have HR := Lib.hid hr
  have hlen := hr.len
  have HL := Lib.hid hlen
  clear hr hlen
  go_enter Tryd.func23, Tryd.ntmps23
  go_wp2_with fail
  go_loopg [3, 4] n (fun gk s3 s4 wx => s4 = .int .i64 ((gk : Int) - 1) ∧ gk ≤ n ∧ s3 = .int .i64 (hd (ts.drop gk)) ∧ okT (ts.drop gk) = true ∧ wx = w)
  case atStart => exact ⟨rfl, Nat.le_refl _, by rw [List.drop_of_length_le (by rw [HL.out]; exact Nat.le_refl _)]; rfl, by rw [List.drop_of_length_le (by rw [HL.out]; exact Nat.le_refl _)]; rfl, rfl⟩
  case round =>
    obtain ⟨rfl, hgn, rfl, hok, rfl⟩ := hrel
    cases gk with
    | zero =>
      obtain ⟨z, hz⟩ : ∃ z : Int, ((0 : Nat) : Int) - 1 = z := ⟨_, rfl⟩
      rw [hz]
      have hzn : ¬ (0 : Int) ≤ z := by omega
      clear hz
      have HOK := Lib.hid hok
      clear hok
      go_wp2_with fail
      go_ret
      have h1 : okT ts = true := HOK.out
      exact ⟨⟨-1, rfl, by rw [h1]; rfl⟩, rfl⟩
    | succ k =>
      obtain ⟨x, hx⟩ : ∃ x, ts[k]? = some x := ⟨_, List.getElem?_eq_getElem (by rw [HL.out]; omega)⟩
      obtain ⟨b, o, rfl, hb, hrg, hxo⟩ := HR.out.at_ hx
      have c0 := hrg 0 (.int .i64 x.h) rfl
      rw [Nat.add_zero] at c0
      obtain ⟨bl, hbl⟩ : ∃ bl, hd (ts.drop (k + 1)) = bl := ⟨_, rfl⟩
      rw [hbl]
      have HX := Lib.hid (And.intro hx (And.intro hbl hok))
      obtain ⟨xh, hxh⟩ : ∃ xh, x.h = xh := ⟨_, rfl⟩
      rw [hxh] at c0
      have HXH := Lib.hid hxh
      have hk1 : ((k + 1 : Nat) : Int) - 1 = (k : Int) := by omega
      have hk0 : (0 : Int) ≤ (k : Int) := by omega
      clear hx hbl hok hrg hxh
      rw [hk1]
      clear hk1
      have hsuf : ∀ b, (okT (x :: ts.drop (k + 1)) = false → b = true) → (b = true → okT ts = false) → True := fun _ _ _ => trivial
      clear hsuf
      by_cases h1 : xh ≤ bl
      · go_wp2_with fail
        go_ret
        refine ⟨⟨k, rfl, ?_⟩, rfl⟩
        obtain ⟨hx, hbl, hok⟩ := HX.out
        have h2 : okT ts = false := by
          cases h : okT ts with
          | false => rfl
          | true =>
            have h3 := okT_drop ts k h
            rw [drop_at hx] at h3
            simp only [okT, Bool.and_eq_true, decide_eq_true_eq] at h3
            have h4 := h3.1.2
            rw [hbl, HXH.out] at h4
            omega
        rw [h2]
        simp
      · have h1b : decide (xh ≤ bl) = false := by rw [decide_eq_false_iff_not]; exact h1
        by_cases h2 : 64 < xh
        · go_wp2_with fail
          go_ret
          refine ⟨⟨k, rfl, ?_⟩, rfl⟩
          obtain ⟨hx, hbl, hok⟩ := HX.out
          have h2 : okT ts = false := by
            cases h : okT ts with
            | false => rfl
            | true =>
              have h3 := okT_drop ts k h
              rw [drop_at hx] at h3
              simp only [okT, Bool.and_eq_true, decide_eq_true_eq] at h3
              have h4 := h3.2
              rw [HXH.out] at h4
              omega
          rw [h2]
          simp
        · go_wp2_with fail
          go_roundg k
          case measure => omega
          case rel =>
            obtain ⟨hx, hbl, hok⟩ := HX.out
            have hd1 : hd (ts.drop k) = xh := by rw [drop_at hx]; exact HXH.out
            refine ⟨rfl, by omega, by rw [hd1], ?_, rfl⟩
            rw [drop_at hx]
            simp only [okT, Bool.and_eq_true, decide_eq_true_eq]
            rw [hbl, HXH.out]
            exact ⟨⟨hok, by omega⟩, by omega⟩
end Go.Proofs.YtehmkkccnadhoaaDoor
namespace Go.Proofs.YtehmkkccnadhoaaDoor
open Go.RowKit
open Tr

def lead (s : List UInt8) : List Tn → List UInt8
  | [] => s
  | x :: ts => Sh.Sha.sum (innerText (UInt8.ofNat x.h.toNat) (UInt64.ofNat x.z) (if x.r = true then x.o else lead s ts) (if x.r = true then lead s ts else x.o))
theorem lead_len (s : List UInt8) (hs : s.length = 32) : ∀ ts, (lead s ts).length = 32
  | [] => hs
  | _ :: _ => Sh.sum_length _
def leadP (p : Pf) : List UInt8 := lead (Sh.Sha.sum (leafText p.key p.val)) p.turns
theorem okT_at : ∀ {ts : List Tn} {i : Nat} {x : Tn}, okT ts = true → ts[i]? = some x → 0 < x.h ∧ x.h ≤ 64
  | [], _, _, _, h => by simp at h
  | y :: ts, 0, x, hk, h => by
    simp at h
    subst h
    simp only [okT, Bool.and_eq_true, decide_eq_true_eq] at hk
    refine ⟨?_, hk.2⟩
    cases ts with
    | nil => exact hk.1.2
    | cons z ts =>
      have h1 := hk.1.2
      simp only [okT, Bool.and_eq_true, decide_eq_true_eq] at hk
      have h2 := okT_at (ts := z :: ts) (i := 0) (x := z) (by simp only [okT, Bool.and_eq_true, decide_eq_true_eq]; exact hk.1.1) rfl
      have h3 : z.h < y.h := h1
      omega
  | y :: ts, i + 1, x, hk, h => by
    simp only [okT, Bool.and_eq_true] at hk
    rw [List.getElem?_cons_succ] at h
    exact okT_at hk.1.1 h
theorem byte_of {h : Int} (h0 : 0 < h) (h1 : h ≤ 64) : IntKind.u8.wrap h = ((UInt8.ofNat h.toNat).toNat : Int) := by
  rw [UInt8.toNat_ofNat']
  simp only [IntKind.wrap, IntKind.bits, IntKind.signed, Bool.false_and, Bool.false_eq_true, if_false]
  omega
theorem acells_lstore {w : World} {g : Nat} {t : TypeId} {kv vv : Value} {h : Int} {z : Nat} {l r l' : List UInt8} (hw : Whole w g t (acells kv vv h z l r).toArray) (hl : l.length = 32) (hl' : l'.length = 32) : Whole (w.setCells g 4 (l'.map V8)) g t (acells kv vv h z l' r).toArray := by
  have e : ∀ l : List UInt8, acells kv vv h z l r = [kv, vv, .int .i64 h, .int .u64 z] ++ (l.map V8 ++ r.map V8) := fun l => by simp [acells]
  rw [e] at hw ⊢
  exact Whole.setCells (l'.map V8) [kv, vv, .int .i64 h, .int .u64 z] (l.map V8) _ hw (by simp [hl, hl'])
theorem acells_rstore {w : World} {g : Nat} {t : TypeId} {kv vv : Value} {h : Int} {z : Nat} {l r r' : List UInt8} (hw : Whole w g t (acells kv vv h z l r).toArray) (hl : l.length = 32) (hr : r.length = 32) (hr' : r'.length = 32) : Whole (w.setCells g 36 (r'.map V8)) g t (acells kv vv h z l r').toArray := by
  have e : ∀ r : List UInt8, acells kv vv h z l r = ([kv, vv, .int .i64 h, .int .u64 z] ++ l.map V8) ++ (r.map V8 ++ []) := fun r => by simp [acells]
  rw [e] at hw ⊢
  have := Whole.setCells (r'.map V8) ([kv, vv, .int .i64 h, .int .u64 z] ++ l.map V8) (r.map V8) [] hw (by simp [hr, hr'])
  rwa [show ([kv, vv, .int .i64 h, .int .u64 z] ++ l.map V8).length = 36 by simp [hl]] at this
theorem built_leaf (A A' : Option Addr) (n c n' c' : Nat) (w : World) : (Instr.build 67 (#[(0, .slice A n c), (1, .slice A' n' c'), (3, .int .u64 1)] : Array (Nat × Value))).run Tryd.prog w = .ok (.agg (acells (.slice A n c) (.slice A' n' c') 0 1 z32 z32).toArray) w := run_build w 67 _ _ (by kernel_rfl)
theorem built_inner (h : Int) (z : Nat) (l r : List UInt8) (hl : l.length = 32) (hr : r.length = 32) (w : World) : (Instr.build 67 (#[(2, .int .i64 h), (3, .int .u64 z), (4, .agg (Sh.bcells l)), (5, .agg (Sh.bcells r))] : Array (Nat × Value))).run Tryd.prog w = .ok (.agg (acells (.slice none 0 0) (.slice none 0 0) h z l r).toArray) w := by
  refine run_build w 67 _ _ ?_
  have hb := built_struct (P := Tryd.prog) (t := 67) (zs := z64) (places := [(0, 1), (1, 1), (2, 1), (3, 1), (4, 32), (36, 32)]) (#[(2, .int .i64 h), (3, .int .u64 z), (4, .agg (Sh.bcells l)), (5, .agg (Sh.bcells r))] : Array (Nat × Value)) (by kernel_rfl) Tryd.underlying67 (by kernel_rfl)
  rw [hb]
  obtain ⟨zl, hzl⟩ : ∃ zl : List Value, zl = z32.map V8 := ⟨_, rfl⟩
  have hzs : zl.length = 32 := by rw [hzl]; rfl
  have e0 : z64 = ([Value.slice none 0 0, Value.slice none 0 0] ++ ([Value.int .i64 0] ++ (Value.int .u64 0 :: (zl ++ zl)))).toArray := by rw [hzl]; rfl
  rw [e0, fill_at [Value.slice none 0 0, Value.slice none 0 0] [Value.int .i64 0] _ rfl rfl]
  have e1 : ([Value.slice none 0 0, Value.slice none 0 0] ++ ((Value.int .i64 h).cells.toList ++ (Value.int .u64 0 :: (zl ++ zl)))).toArray = ([Value.slice none 0 0, Value.slice none 0 0, Value.int .i64 h] ++ ([Value.int .u64 0] ++ (zl ++ zl))).toArray := rfl
  rw [e1, fill_at [Value.slice none 0 0, Value.slice none 0 0, Value.int .i64 h] [Value.int .u64 0] _ rfl rfl]
  have e2 : ([Value.slice none 0 0, Value.slice none 0 0, Value.int .i64 h] ++ ((Value.int .u64 z).cells.toList ++ (zl ++ zl))).toArray = ([Value.slice none 0 0, Value.slice none 0 0, Value.int .i64 h, Value.int .u64 z] ++ (zl ++ zl)).toArray := rfl
  have hsl : (Value.agg (Sh.bcells l)).cells.size = 32 := by show (Sh.bcells l).size = 32; rw [Sh.bcells_size, hl]
  have hsr : (Value.agg (Sh.bcells r)).cells.size = 32 := by show (Sh.bcells r).size = 32; rw [Sh.bcells_size, hr]
  rw [e2, fill_at [Value.slice none 0 0, Value.slice none 0 0, Value.int .i64 h, Value.int .u64 z] zl zl (by rw [hsl]; rfl) (by rw [hsl, hzs])]
  have e3 : ([Value.slice none 0 0, Value.slice none 0 0, Value.int .i64 h, Value.int .u64 z] ++ ((Value.agg (Sh.bcells l)).cells.toList ++ zl)).toArray = (([Value.slice none 0 0, Value.slice none 0 0, Value.int .i64 h, Value.int .u64 z] ++ l.map V8) ++ (zl ++ [])).toArray := by
    have : (Value.agg (Sh.bcells l)).cells.toList = l.map V8 := rfl
    rw [this]; simp
  rw [e3, fill_at ([Value.slice none 0 0, Value.slice none 0 0, Value.int .i64 h, Value.int .u64 z] ++ l.map V8) zl [] (by rw [hsr]; simp [hl]) (by rw [hsr, hzs])]
  rw [Instr.fill]
  have e4 : (Value.agg (Sh.bcells r)).cells.toList = r.map V8 := rfl
  rw [e4]
  simp [acells]
theorem acells_siz (kv vv : Value) (h : Int) (z : Nat) (l r : List UInt8) (hl : l.length = 32) (hr : r.length = 32) : (acells kv vv h z l r).toArray.size = 68 := by rw [List.size_toArray]; exact acells_len _ _ _ _ _ _ hl hr

set_option maxRecDepth 100000 in
set_option maxHeartbeats 1000000 in
theorem leads_any (X : Array Value) (p : Pf) (w : World) (hP : PfV w w.heap.size X p) (hok : okT p.turns = true) (hk : p.key.length ≤ 1000) (hv : p.val.length ≤ 1000) (hm : p.turns.length ≤ 1000) (ht : Sh.Tab w 2) (hw : 2 < w.heap.size) :
    Calls Tryd.prog 24 #[.agg X] w fun e w' => e = .returned (.agg (Sh.bcells (leadP p))) ∧ Below w.heap.size w w' := by
  obtain ⟨A, n, c, A', n', c', A2, m, k, rfl, k1, k2, k3, k4, k5, k6⟩ := hP
  have hz49 := zero49
  have hb0 : Below w.heap.size w ((w.alloc (.cells #[.slice A n c, .slice A' n' c', .slice A2 m k] 26)).alloc (.cells (zb 32) 44)) := ((Below.refl _ _).alloc (Nat.le_refl _) _).alloc (by simp) _
  have hw1 := (Whole.made w 26 #[.slice A n c, .slice A' n' c', .slice A2 m k]).alloc (.cells (zb 32) 44)
  have hw2 := Whole.made (w.alloc (.cells #[.slice A n c, .slice A' n' c', .slice A2 m k] 26)) 44 (zb 32)
  have hs1 : ((w.alloc (.cells #[.slice A n c, .slice A' n' c', .slice A2 m k] 26)).alloc (.cells (zb 32) 44)).heap.size = w.heap.size + 2 := by simp
  rw [size_alloc] at hw2
  have HOK := Lib.hid (And.intro hok (And.intro hk (And.intro hv hm)))
  have HB0 := Lib.hid hb0
  have HW1 := Lib.hid hw1
  have HW2 := Lib.hid hw2
  have HT := Lib.hid ht
  have d0 := hw1.at_ (i := 0) (v := .slice A n c) rfl
  have d1 := hw1.at_ (i := 1) (v := .slice A' n' c') rfl
  have HTR := Lib.hid ((k5.below hb0 (Nat.le_refl _)).more hb0.size)
  have HHA := Lib.hid (hash_leaf A n c A' n' c' 1 z32 z32 p.key p.val ((w.alloc (.cells #[.slice A n c, .slice A' n' c', .slice A2 m k] 26)).alloc (.cells (zb 32) 44)) ((k1.below hb0 (Nat.le_refl _)).more hb0.size) ((k3.below hb0 (Nat.le_refl _)).more hb0.size) k2 k4 (by have := k1.len; omega) (by have := k3.len; omega) (Sh.tab_below ht hb0 hw) (by omega))
  have hml : m ≤ 1000 := by have := k5.len; omega
  have HML := Lib.hid k5.len
  clear hok hk hv hm hb0 hw1 hw2 ht k1 k2 k3 k4 k5 k6
  go_enter Tryd.func24, Tryd.ntmps24
  go_upto_region 1 with (fail)
  generalize (w.alloc (.cells #[.slice A n c, .slice A' n' c', .slice A2 m k] 26)).alloc (.cells (zb 32) 44) = w1 at *
  refine wp_region_lit ?_
  iterate 12 go_step
  refine wpList_build_run rfl 67 #[(0, .tmp 8), (1, .tmp 10), (3, .const (.int .u64 1))] rfl _ ?_ _ (built_leaf A A' n c n' c' w1) ?_
  · simp only [List.map_toArray, List.map_cons, List.map_nil]
    rfl
  simp only [Act.put, List.setIfInBounds_toArray, List.set_cons_zero, List.set_cons_succ]
  obtain ⟨L0, hL0⟩ : ∃ L0, (acells (.slice A n c) (.slice A' n' c') 0 1 z32 z32).toArray = L0 := ⟨_, rfl⟩
  rw [hL0] at HHA ⊢
  clear hL0
  go_wp2_with fail
  refine HHA.out.mono ?_
  rintro e w2 ⟨rfl, hb2⟩
  obtain ⟨s0, hs0⟩ : ∃ s0, s0 = Sh.Sha.sum (leafText p.key p.val) := ⟨_, rfl⟩
  rw [← hs0]
  have hl0 : s0.length = 32 := by rw [hs0]; exact Sh.sum_length _
  have HS0 := Lib.hid hs0
  have HB2 := Lib.hid (HB0.out.trans (hb2.mono HB0.out.size))
  have hs2 := hb2.size
  have HW12 := Lib.hid (HW1.out.below hb2 HW1.out.lt)
  have HW22 := Lib.hid (HW2.out.below hb2 HW2.out.lt)
  have HTR2 := Lib.hid ((HTR.out.below hb2 (Nat.le_refl _)).more hs2)
  clear hs0 hb2 HHA HW1 HW2 HB0 HTR d0 d1
  simp only []
  iterate 4 go_step
  clear hz49
  refine Sh.wpList_store_made rfl 44 (.tmp 3) (.tmp 12) rfl (zb 32) (Sh.bcells s0) rfl rfl ?_ ?_ (Sh.bcells_one s0) ?_
  · rw [Sh.bcells_size, hl0]; exact info49
  · rw [Sh.bcells_size, hl0]; rfl
  have hb3 : Below w2.heap.size w2 (w2.alloc (.cells (Sh.bcells s0) 44)) := (Below.refl _ _).alloc (Nat.le_refl _) _
  have hw3 := Whole.made w2 44 (Sh.bcells s0)
  obtain ⟨g3, hg3⟩ : ∃ g3, g3 = w2.heap.size := ⟨_, rfl⟩
  rw [← hg3] at hw3 ⊢
  have hz3 : (w2.alloc (.cells (Sh.bcells s0) 44)).heap.size = w2.heap.size + 1 := size_alloc _ _
  have hgb : w.heap.size + 2 ≤ g3 := by omega
  have HB3 := Lib.hid (HB2.out.trans (hb3.mono HB2.out.size))
  have HW13 := Lib.hid (HW12.out.below hb3 HW12.out.lt)
  have HW23 := Lib.hid (HW22.out.below hb3 HW22.out.lt)
  have HTR3 : Hid (TRd (w2.alloc (.cells (Sh.bcells s0) 44)) g3 A2 m p.turns) := Lib.hid (by rw [hg3]; exact HTR2.out.below hb3 (Nat.le_refl _))
  have HW3 := Lib.hid hw3
  have hg3l : g3 < (w2.alloc (.cells (Sh.bcells s0) 44)).heap.size := hw3.lt
  clear hb3 hw3 hg3 hz3 hs1 hs2 HW12 HW22 HTR2 HB2
  generalize w2.alloc (.cells (Sh.bcells s0) 44) = w3 at *
  have e2 : w3.cell? ⟨w.heap.size, 2, none⟩ = some (.slice A2 m k) := HW13.out.at_ rfl
  go_wp2_with fail
  go_loopg [4] m (fun gk s4 wx => s4 = .int .i64 ((gk : Int) - 1) ∧ gk ≤ m ∧ Whole wx g3 44 (Sh.bcells (lead s0 (p.turns.drop gk))) ∧ Below g3 w3 wx ∧ g3 < wx.heap.size)
  case atStart => exact ⟨rfl, Nat.le_refl _, by rw [List.drop_of_length_le (by rw [HML.out]; exact Nat.le_refl _)]; exact HW3.out, Below.refl _ _, hg3l⟩
  case round =>
    obtain ⟨rfl, hgm, hW, hb, hgl⟩ := hrel
    clear HW3
    cases gk with
    | zero =>
      obtain ⟨z, hz⟩ : ∃ z : Int, ((0 : Nat) : Int) - 1 = z := ⟨_, rfl⟩
      rw [hz]
      have hzn : ¬ (0 : Int) ≤ z := by omega
      clear hz
      have HWG : Hid (Whole wr g3 44 (Sh.bcells (leadP p))) := Lib.hid (by
        have h1 := hW
        rw [List.drop_zero, HS0.out] at h1
        exact h1)
      have hlp : (leadP p).length = 32 := lead_len _ (Sh.sum_length _) _
      obtain ⟨q, hq⟩ : ∃ q, leadP p = q := ⟨_, rfl⟩
      rw [hq] at HWG hlp
      have HQ := Lib.hid hq
      have HZ := Lib.hid (HW23.out.below hb (by omega))
      have HBR := Lib.hid (HB3.out.trans (hb.mono (by omega)))
      have HI : Hid ((Tryd.prog.info? 44).map (·.size) = some (q.map V8).length) := Lib.hid (by rw [List.length_map, hlp]; exact info49)
      clear hW hb hq
      go_upto_region 10 with (fail)
      refine wp_region_lit ?_
      refine wpList_load_mid rfl 44 (.tmp 3) rfl g3 0 rfl (q.map V8) _ HWG.out.range Tryd.underlying44 rfl HI.out ?_
      simp only [Act.put, List.setIfInBounds_toArray, List.set_cons_zero, List.set_cons_succ]
      refine wpList_store_mid rfl 44 (.tmp 2) (.tmp 43) rfl (w.heap.size + 1) 0 (Sh.bcells q) rfl rfl ?_ ?_ (Sh.bcells_one q) ?_
      · rw [Sh.bcells_size, hlp]; have h1 := HZ.out.there_; rw [zb_size] at h1; exact h1
      · rw [Sh.bcells_size, hlp]; exact info49
      have HWA : Hid (Whole (wr.setCells (w.heap.size + 1) 0 (Sh.bcells q).toList) (w.heap.size + 1) 44 (Sh.bcells q)) := Lib.hid (HZ.out.setAll (by rw [zb_size, Sh.bcells_size, hlp]))
      have HBA : Hid (Below w.heap.size w (wr.setCells (w.heap.size + 1) 0 (Sh.bcells q).toList)) := Lib.hid (below_setCells w (w.heap.size + 1) _ 0 HBR.out (by omega))
      generalize wr.setCells (w.heap.size + 1) 0 (Sh.bcells q).toList = wA at *
      go_wp2_with fail
      refine bodyPost_ret (results_cell1 Tryd.results24 _ _ _ ⟨w.heap.size + 1, 0, none⟩ _ rfl (load_whole HWA.out 44 _ Tryd.underlying44 rfl (by rw [Sh.bcells_size, hlp]; exact info49))) rfl ?_
      exact ⟨by rw [HQ.out], HBA.out⟩
    | succ i =>
      obtain ⟨x, hx⟩ : ∃ x, p.turns[i]? = some x := ⟨_, List.getElem?_eq_getElem (by rw [HML.out]; omega)⟩
      obtain ⟨b, o, rfl, hbb, hrg, hxo⟩ := (HTR3.out.below hb (Nat.le_refl _)).at_ hx
      have hk1 : ((i + 1 : Nat) : Int) - 1 = (i : Int) := by omega
      have hk0 : (0 : Int) ≤ (i : Int) := by omega
      rw [hk1]
      clear hk1
      obtain ⟨sm, hsm⟩ : ∃ sm, lead s0 (p.turns.drop (i + 1)) = sm := ⟨_, rfl⟩
      have hsl : sm.length = 32 := by rw [← hsm]; exact lead_len _ hl0 _
      rw [hsm] at hW
      have hoh := okT_at HOK.out.1 hx
      have HX := Lib.hid (And.intro hx (And.intro hxo (And.intro hsm hsl)))
      have HOH := Lib.hid hoh
      have HB := Lib.hid hb
      have HWR := Lib.hid hW
      have HRG := Lib.hid hrg
      have HL0 := Lib.hid hl0
      have c2 : wr.cell? ⟨w.heap.size, 2, none⟩ = some (.slice (some ⟨b, o, none⟩) m k) := (HW13.out.below hb (by omega)).at_ rfl
      have hz46 := zero46
      clear hx hb hW hrg hxo hsm hsl hoh hl0
      go_upto_region 5 with (fail)
      refine wp_region_lit ?_
      iterate 12 go_step
      refine wpList_load_mid rfl 46 (.tmp 24) rfl b (o + i * 35) rfl (tcells x) _ HRG.out Tryd.underlying46 rfl (by rw [tcells_len x HX.out.2.1.1]; exact info46) ?_
      simp only [Act.put, List.setIfInBounds_toArray, List.set_cons_zero, List.set_cons_succ]
      obtain ⟨X5, hX5⟩ : ∃ X5, (tcells x).toArray = X5 := ⟨_, rfl⟩
      rw [hX5]
      have HX5 := Lib.hid hX5
      clear hX5
      iterate 3 go_step
      clear hz46
      refine Sh.wpList_store_made rfl 46 (.tmp 5) (.tmp 25) rfl zt X5 rfl rfl ?_ ?_ ?_ ?_
      · rw [← HX5.out, List.size_toArray, tcells_len x HX.out.2.1.1]; exact info46
      · have h1 : X5.size = 35 := by rw [← HX5.out, List.size_toArray, tcells_len x HX.out.2.1.1]
        rw [h1]; rfl
      · rw [← HX5.out]; exact all_oneCell_toArray (tcells_one x)
      have hW5 : Whole (wr.alloc (.cells X5 46)) wr.heap.size 46 (tcells x).toArray := by rw [HX5.out]; exact Whole.made wr 46 X5
      have HB5 : Hid (Below g3 w3 (wr.alloc (.cells X5 46))) := Lib.hid (HB.out.alloc (by omega) _)
      have HWR5 := Lib.hid (HWR.out.alloc (.cells X5 46))
      have HW5 := Lib.hid hW5
      have h50 := hW5.at_ (i := 0) (v := .int .i64 x.h) rfl
      have h51 := hW5.at_ (i := 1) (v := .int .u64 x.z) rfl
      have h52 := hW5.at_ (i := 2) (v := .bool x.r) rfl
      have h53 : Hid ((wr.alloc (.cells X5 46)).rangeAt wr.heap.size 3 (x.o.map V8)) := Lib.hid (by
        have h1 := HW5.out.range
        intro k' u hu
        rw [Nat.add_comm]
        exact (by simpa using h1 (k' + 3) u (by simpa [tcells] using hu)))
      obtain ⟨g5, hg5⟩ : ∃ g5, wr.heap.size = g5 := ⟨_, rfl⟩
      rw [hg5] at hgl h50 h51 h52 h53 HW5 ⊢
      clear HRG hW5 hg5
      have hg5l : g5 < (wr.alloc (.cells X5 46)).heap.size := HW5.out.lt
      generalize wr.alloc (.cells X5 46) = w5 at *
      go_upto_region 6 with (fail)
      refine wp_region_lit ?_
      iterate 12 go_step
      refine wpList_load_mid rfl 44 (.tmp 3) rfl g3 0 rfl (sm.map V8) _ HWR5.out.range Tryd.underlying44 rfl (by rw [List.length_map, HX.out.2.2.2]; exact info49) ?_
      simp only [Act.put, List.setIfInBounds_toArray, List.set_cons_zero, List.set_cons_succ]
      iterate 3 go_step
      refine wpList_load_mid rfl 44 (.tmp 31) rfl g5 3 rfl (x.o.map V8) _ h53.out Tryd.underlying44 rfl (by rw [List.length_map, HX.out.2.1.1]; exact info49) ?_
      simp only [Act.put, List.setIfInBounds_toArray, List.set_cons_zero, List.set_cons_succ]
      refine wpList_build_run rfl 67 #[(2, .tmp 27), (3, .tmp 29), (4, .tmp 30), (5, .tmp 32)] rfl _ ?_ _ (built_inner x.h x.z sm x.o HX.out.2.2.2 HX.out.2.1.1 w5) ?_
      · simp only [List.map_toArray, List.map_cons, List.map_nil]
        rfl
      simp only [Act.put, List.setIfInBounds_toArray, List.set_cons_zero, List.set_cons_succ]
      have hN6 := acells_siz (.slice none 0 0) (.slice none 0 0) x.h x.z sm x.o HX.out.2.2.2 HX.out.2.1.1
      have hz64 := zero64
      obtain ⟨N6, hN6e⟩ : ∃ N6, (acells (.slice none 0 0) (.slice none 0 0) x.h x.z sm x.o).toArray = N6 := ⟨_, rfl⟩
      have hone6 : N6.all (·.oneCell') = true := by rw [← hN6e]; exact acells_one ..
      rw [hN6e] at hN6 ⊢
      have HN6 := Lib.hid (And.intro hN6e (And.intro hN6 hone6))
      clear hN6e hN6 hone6
      iterate 3 go_step
      clear hz64
      refine Sh.wpList_store_made rfl 67 (.tmp 6) (.tmp 33) rfl z64 N6 rfl rfl ?_ ?_ HN6.out.2.2 ?_
      · rw [HN6.out.2.1]; exact info64
      · rw [HN6.out.2.1]; exact z64_size
      have hW6 : Whole (w5.alloc (.cells N6 67)) w5.heap.size 67 (acells (.slice none 0 0) (.slice none 0 0) x.h x.z sm x.o).toArray := by rw [HN6.out.1]; exact Whole.made w5 67 N6
      have HB6 : Hid (Below g3 w3 (w5.alloc (.cells N6 67))) := Lib.hid (HB5.out.alloc (by omega) _)
      have HWR6 := Lib.hid (HWR5.out.alloc (.cells N6 67))
      have HW56 := Lib.hid (HW5.out.alloc (.cells N6 67))
      have HW6 := Lib.hid hW6
      obtain ⟨g6, hg6⟩ : ∃ g6, w5.heap.size = g6 := ⟨_, rfl⟩
      rw [hg6] at hg5l HW6 ⊢
      clear hW6 hg6 h53 HB5 HWR5 HW5 HN6 HB HWR HX5 h50 h51 h52 c2
      have hg6l : g6 < (w5.alloc (.cells N6 67)).heap.size := HW6.out.lt
      have h52 := HW56.out.at_ (i := 2) (v := .bool x.r) rfl
      have h53 : Hid ((w5.alloc (.cells N6 67)).rangeAt g5 3 (x.o.map V8)) := Lib.hid (by
        have h1 := HW56.out.range
        intro k' u hu
        rw [Nat.add_comm]
        exact (by simpa using h1 (k' + 3) u (by simpa [tcells] using hu)))
      generalize w5.alloc (.cells N6 67) = w6 at *
      obtain ⟨xr, hxr⟩ : ∃ xr, x.r = xr := ⟨_, rfl⟩
      rw [hxr] at h52
      cases xr with
      | false =>
        go_upto_region 9 with (fail)
        obtain ⟨S, hS⟩ : ∃ S, Sh.Sha.sum (innerText (UInt8.ofNat x.h.toNat) (UInt64.ofNat x.z) sm x.o) = S := ⟨_, rfl⟩
        have HHI : Hid (Calls Tryd.prog 39 #[.agg (acells (.slice none 0 0) (.slice none 0 0) x.h x.z sm x.o).toArray] w6 fun e w' => e = .returned (.agg (Sh.bcells S)) ∧ Below w6.heap.size w6 w') := Lib.hid (by
          have hzz : (UInt64.ofNat x.z).toNat = x.z := by
            have h1 := HX.out.2.1.2
            rw [UInt64.toNat_ofNat']
            omega
          have hoh := HOH.out
          have h1 := hash_inner (.slice none 0 0) (.slice none 0 0) x.h (UInt8.ofNat x.h.toNat) (UInt64.ofNat x.z) sm x.o w6 (by omega) (byte_of hoh.1 hoh.2) HX.out.2.2.2 HX.out.2.1.1 (Sh.tab_below HT.out (HB3.out.trans (HB6.out.mono (by omega))) hw) (by have := HB6.out.size; omega)
          rw [hzz, hS] at h1
          exact h1)
        have hSl : S.length = 32 := by rw [← hS]; exact Sh.sum_length _
        have HS : Hid (lead s0 (p.turns.drop i) = S) := Lib.hid (by
          rw [drop_at HX.out.1]
          simp only [lead, HX.out.2.2.1, hxr]
          exact hS)
        have HSL := Lib.hid hSl
        clear hS hSl
        refine wp_region_lit ?_
        refine wpList_load_mid rfl 67 (.tmp 6) rfl g6 0 rfl (acells (.slice none 0 0) (.slice none 0 0) x.h x.z sm x.o) _ HW6.out.range Tryd.underlying67 rfl (by rw [acells_len _ _ _ _ _ _ HX.out.2.2.2 HX.out.2.1.1]; exact info64) ?_
        simp only [Act.put, List.setIfInBounds_toArray, List.set_cons_zero, List.set_cons_succ]
        obtain ⟨N9, hN9⟩ : ∃ N9, (acells (.slice none 0 0) (.slice none 0 0) x.h x.z sm x.o).toArray = N9 := ⟨_, rfl⟩
        rw [hN9] at HHI ⊢
        clear hN9
        go_wp2_with fail
        refine HHI.out.mono ?_
        rintro e w9 ⟨rfl, hb9⟩
        have HB9 : Hid (Below g3 w3 w9) := Lib.hid (HB6.out.trans (hb9.mono (by have := HWR6.out.lt; omega)))
        have HWR9 : Hid (Whole w9 g3 44 (Sh.bcells sm)) := Lib.hid (HWR6.out.below hb9 HWR6.out.lt)
        clear hb9 HHI HB6 HWR6 HW6
        simp only []
        iterate 1 go_step
        refine wpList_store_mid rfl 44 (.tmp 3) (.tmp 42) rfl g3 0 (Sh.bcells S) rfl rfl ?_ ?_ (Sh.bcells_one S) ?_
        · rw [Sh.bcells_size, HSL.out]; have h1 := HWR9.out.there_; rw [Sh.bcells_size, HX.out.2.2.2] at h1; exact h1
        · rw [Sh.bcells_size, HSL.out]; exact info49
        have HWA : Hid (Whole (w9.setCells g3 0 (Sh.bcells S).toList) g3 44 (Sh.bcells S)) := Lib.hid (HWR9.out.setAll (by rw [Sh.bcells_size, Sh.bcells_size, HX.out.2.2.2, HSL.out]))
        have HBA : Hid (Below g3 w3 (w9.setCells g3 0 (Sh.bcells S).toList)) := Lib.hid (below_setCells w3 g3 _ 0 HB9.out (Nat.le_refl _))
        clear HB9 HWR9
        generalize w9.setCells g3 0 (Sh.bcells S).toList = wA at *
        go_wp2_with fail
        go_roundg i
        case measure => omega
        case rel => exact ⟨rfl, by omega, by rw [HS.out]; exact HWA.out, HBA.out, HWA.out.lt⟩
      | true =>
        go_upto_region 8 with (fail)
        have HB6d : Hid (Below g3 w3 w6.drew) := Lib.hid HB6.out.drew
        have HWR6d : Hid (Whole w6.drew g3 44 (Sh.bcells sm)) := Lib.hid HWR6.out
        have HW6d : Hid (Whole w6.drew g6 67 (acells (.slice none 0 0) (.slice none 0 0) x.h x.z sm x.o).toArray) := Lib.hid HW6.out
        have hS0 : w6.drew.rangeAt g5 3 (x.o.map V8) ∧ w6.drew.rangeAt g3 0 (sm.map V8) := ⟨h53.out, HWR6d.out.range⟩
        have HLS : Hid ((Tryd.prog.info? 44).map (·.size) = some (sm.map V8).length) := Lib.hid (by rw [List.length_map, HX.out.2.2.2]; exact info49)
        have HLO : Hid ((Tryd.prog.info? 44).map (·.size) = some (x.o.map V8).length) := Lib.hid (by rw [List.length_map, HX.out.2.1.1]; exact info49)
        refine wp_region_held_drew (S := fun u => u.rangeAt g5 3 (x.o.map V8) ∧ u.rangeAt g3 0 (sm.map V8)) (by kernel_rfl) hS0 (fun hHeld => ?_)
        refine wpAnyH_take (i := 0) (oi := { dst := some 36, op := Op.fieldAddr 46 (Operand.tmp 5) 3, type := 0, pos := "verify.go:53", after := #[], guard := none }) (v := ?_) rfl (by kernel_rfl) (by kernel_rfl) (by kernel_rfl) (fun _ _ _ h => h) (Or.inl ⟨by rfl, ?_⟩) (by assumption) ?_
        rotate_left
        · first | (intro w hSw; (try dsimp only at hSw); go_simp; done) | (intro w hSw; (try dsimp only at hSw); go_simp; with_reducible rfl)
        simp only [Act.put, List.setIfInBounds_toArray, List.set_cons_zero, List.set_cons_succ]
        refine wpAnyH_take (i := 1) (oi := { dst := some 37, op := Op.load 44 (Operand.tmp 36), type := 44, pos := "verify.go:53", after := #[{ on := 0, ground := Ground.data }], guard := none }) (v := .agg (x.o.map V8).toArray) rfl (by kernel_rfl) (by kernel_rfl) (by kernel_rfl) (fun _ _ _ h => h) (yieldsIf_load_mid (by rfl) 44 (.tmp 36) rfl g5 3 rfl (x.o.map V8) _ (fun _ h => h.1) Tryd.underlying44 rfl HLO.out) (by assumption) ?_
        simp only [Act.put, List.setIfInBounds_toArray, List.set_cons_zero, List.set_cons_succ]
        refine wpAnyH_take (i := 2) (oi := { dst := some 38, op := Op.load 44 (Operand.tmp 3), type := 44, pos := "verify.go:53", after := #[{ on := 4, ground := Ground.gcOnly Departure.lateStores }], guard := none }) (v := .agg (sm.map V8).toArray) rfl (by kernel_rfl) (by kernel_rfl) (by kernel_rfl) (fun _ _ _ h => h) (yieldsIf_load_mid (by rfl) 44 (.tmp 3) rfl g3 0 rfl (sm.map V8) _ (fun _ h => h.2) Tryd.underlying44 rfl HLS.out) (by assumption) ?_
        simp only [Act.put, List.setIfInBounds_toArray, List.set_cons_zero, List.set_cons_succ]
        refine wpAnyH_take (i := 3) (oi := { dst := some 39, op := Op.fieldAddr 67 (Operand.tmp 6) 4, type := 0, pos := "verify.go:53", after := #[{ on := 0, ground := Ground.phase }, { on := 1, ground := Ground.phase }, { on := 2, ground := Ground.textOnly Departure.lateStores }], guard := none }) (v := ?_) rfl (by kernel_rfl) (by kernel_rfl) (by kernel_rfl) (fun _ _ _ h => h) (Or.inl ⟨by rfl, ?_⟩) (by assumption) ?_
        rotate_left
        · first | (intro w hSw; (try dsimp only at hSw); go_simp; done) | (intro w hSw; (try dsimp only at hSw); go_simp; with_reducible rfl)
        simp only [Act.put, List.setIfInBounds_toArray, List.set_cons_zero, List.set_cons_succ]
        generalize w6.drew = w7 at *
        clear HB6 HWR6 HW6 h53 hHeld
        have hap : ∀ (v : World) (q : Nat) (cs : List Value), (v.rangeAt g5 3 (x.o.map V8) ∧ v.rangeAt g3 0 (sm.map V8)) → ((v.setCells g6 q cs).rangeAt g5 3 (x.o.map V8) ∧ (v.setCells g6 q cs).rangeAt g3 0 (sm.map V8)) := fun v q cs h => ⟨World.rangeAt_setCells_apart h.1 g6 q cs (.inl (by omega)), World.rangeAt_setCells_apart h.2 g6 q cs (.inl (by omega))⟩
        have HAP := Lib.hid hap
        refine wpAnyH_ready (rs := [4]) (by kernel_rfl) (by simp) ?_
        refine AllReadyH.cons rfl (fun K hK => ?_) AllReadyH.nil
        refine Eq.mpr (if_pos (by rfl)) ?_
        refine wp_store_mid 44 (.tmp 39) (.tmp 37) rfl g6 4 (x.o.map V8).toArray rfl rfl ?_ ?_ (all_oneCell_toArray (one_bytes _)) ?_
        · rw [List.size_toArray, List.length_map, HX.out.2.1.1]; exact HW6d.out.midthere 4 32 (by rw [acells_siz _ _ _ _ _ _ HX.out.2.2.2 HX.out.2.1.1]; omega)
        · rw [List.size_toArray]; exact HLO.out
        have HW7 : Hid (Whole (w7.setCells g6 4 (x.o.map V8)) g6 67 (acells (.slice none 0 0) (.slice none 0 0) x.h x.z x.o x.o).toArray) := Lib.hid (acells_lstore HW6d.out HX.out.2.2.2 HX.out.2.1.1)
        have HB7 : Hid (Below g3 w3 (w7.setCells g6 4 (x.o.map V8))) := Lib.hid (below_setCells w3 g6 _ 4 HB6d.out (by omega))
        have HWR7 : Hid (Whole (w7.setCells g6 4 (x.o.map V8)) g3 44 (Sh.bcells sm)) := Lib.hid ((heap_setCells_other g6 g3 (by omega) _ 4 w7).trans HWR6d.out)
        have hS1 := HAP.out w7 4 (x.o.map V8) hS0
        refine hK.out _ _ hS1 (fun _ => ?_)
        clear hK K hS0 HW6d HB6d HWR6d hap
        generalize w7.setCells g6 4 (x.o.map V8) = w8 at *
        refine wpAnyH_take (i := 5) (oi := { dst := some 40, op := Op.fieldAddr 67 (Operand.tmp 6) 5, type := 0, pos := "verify.go:53", after := #[{ on := 0, ground := Ground.phase }, { on := 1, ground := Ground.phase }, { on := 2, ground := Ground.phase }, { on := 3, ground := Ground.phase }, { on := 4, ground := Ground.phase }], guard := none }) (v := ?_) rfl (by kernel_rfl) (by kernel_rfl) (by kernel_rfl) (fun _ _ _ h => h) (Or.inl ⟨by rfl, ?_⟩) (by assumption) ?_
        rotate_left
        · first | (intro w hSw; (try dsimp only at hSw); go_simp; done) | (intro w hSw; (try dsimp only at hSw); go_simp; with_reducible rfl)
        simp only [Act.put, List.setIfInBounds_toArray]
        refine wpAnyH_ready (rs := [6]) (by kernel_rfl) (by simp) ?_
        refine AllReadyH.cons rfl (fun K hK => ?_) AllReadyH.nil
        refine Eq.mpr (if_pos (by rfl)) ?_
        refine wp_store_mid 44 (.tmp 40) (.tmp 38) rfl g6 36 (sm.map V8).toArray rfl rfl ?_ ?_ (all_oneCell_toArray (one_bytes _)) ?_
        · rw [List.size_toArray, List.length_map, HX.out.2.2.2]; exact HW7.out.midthere 36 32 (by rw [acells_siz _ _ _ _ _ _ HX.out.2.1.1 HX.out.2.1.1]; omega)
        · rw [List.size_toArray]; exact HLS.out
        have HW8 : Hid (Whole (w8.setCells g6 36 (sm.map V8)) g6 67 (acells (.slice none 0 0) (.slice none 0 0) x.h x.z x.o sm).toArray) := Lib.hid (acells_rstore HW7.out HX.out.2.1.1 HX.out.2.1.1 HX.out.2.2.2)
        have HB8 : Hid (Below g3 w3 (w8.setCells g6 36 (sm.map V8))) := Lib.hid (below_setCells w3 g6 _ 36 HB7.out (by omega))
        have HWR8 : Hid (Whole (w8.setCells g6 36 (sm.map V8)) g3 44 (Sh.bcells sm)) := Lib.hid ((heap_setCells_other g6 g3 (by omega) _ 36 w8).trans HWR7.out)
        have hS2 := HAP.out w8 36 (sm.map V8) hS1
        refine hK.out _ _ hS2 (fun _ => ?_)
        clear hK K hS1 hS2 HW7 HB7 HWR7
        generalize w8.setCells g6 36 (sm.map V8) = w8a at *
        refine wpAnyH_done (by kernel_rfl) ?_ _
        clear HAP HLO HLS
        go_upto_region 9 with (fail)
        obtain ⟨S, hS⟩ : ∃ S, Sh.Sha.sum (innerText (UInt8.ofNat x.h.toNat) (UInt64.ofNat x.z) x.o sm) = S := ⟨_, rfl⟩
        have HHI : Hid (Calls Tryd.prog 39 #[.agg (acells (.slice none 0 0) (.slice none 0 0) x.h x.z x.o sm).toArray] w8a fun e w' => e = .returned (.agg (Sh.bcells S)) ∧ Below w8a.heap.size w8a w') := Lib.hid (by
          have hzz : (UInt64.ofNat x.z).toNat = x.z := by
            have h1 := HX.out.2.1.2
            rw [UInt64.toNat_ofNat']
            omega
          have hoh := HOH.out
          have h1 := hash_inner (.slice none 0 0) (.slice none 0 0) x.h (UInt8.ofNat x.h.toNat) (UInt64.ofNat x.z) x.o sm w8a (by omega) (byte_of hoh.1 hoh.2) HX.out.2.1.1 HX.out.2.2.2 (Sh.tab_below HT.out (HB3.out.trans (HB8.out.mono (by omega))) hw) (by have := HB8.out.size; omega)
          rw [hzz, hS] at h1
          exact h1)
        have hSl : S.length = 32 := by rw [← hS]; exact Sh.sum_length _
        have HS : Hid (lead s0 (p.turns.drop i) = S) := Lib.hid (by
          rw [drop_at HX.out.1]
          simp only [lead, HX.out.2.2.1, hxr]
          exact hS)
        have HSL := Lib.hid hSl
        clear hS hSl
        refine wp_region_lit ?_
        refine wpList_load_mid rfl 67 (.tmp 6) rfl g6 0 rfl (acells (.slice none 0 0) (.slice none 0 0) x.h x.z x.o sm) _ HW8.out.range Tryd.underlying67 rfl (by rw [acells_len _ _ _ _ _ _ HX.out.2.1.1 HX.out.2.2.2]; exact info64) ?_
        simp only [Act.put]
        obtain ⟨N9, hN9⟩ : ∃ N9, (acells (.slice none 0 0) (.slice none 0 0) x.h x.z x.o sm).toArray = N9 := ⟨_, rfl⟩
        rw [hN9] at HHI ⊢
        clear hN9
        go_wp2_with fail
        refine HHI.out.mono ?_
        rintro e w9 ⟨rfl, hb9⟩
        have HB9 : Hid (Below g3 w3 w9) := Lib.hid (HB8.out.trans (hb9.mono (by have := HWR8.out.lt; omega)))
        have HWR9 : Hid (Whole w9 g3 44 (Sh.bcells sm)) := Lib.hid (HWR8.out.below hb9 HWR8.out.lt)
        clear hb9 HHI HB8 HWR8 HW8
        simp only []
        iterate 1 go_step
        refine wpList_store_mid rfl 44 (.tmp 3) (.tmp 42) rfl g3 0 (Sh.bcells S) rfl rfl ?_ ?_ (Sh.bcells_one S) ?_
        · rw [Sh.bcells_size, HSL.out]; have h1 := HWR9.out.there_; rw [Sh.bcells_size, HX.out.2.2.2] at h1; exact h1
        · rw [Sh.bcells_size, HSL.out]; exact info49
        have HWA : Hid (Whole (w9.setCells g3 0 (Sh.bcells S).toList) g3 44 (Sh.bcells S)) := Lib.hid (HWR9.out.setAll (by rw [Sh.bcells_size, Sh.bcells_size, HX.out.2.2.2, HSL.out]))
        have HBA : Hid (Below g3 w3 (w9.setCells g3 0 (Sh.bcells S).toList)) := Lib.hid (below_setCells w3 g3 _ 0 HB9.out (Nat.le_refl _))
        clear HB9 HWR9
        generalize w9.setCells g3 0 (Sh.bcells S).toList = wA at *
        go_wp2_with fail
        go_roundg i
        case measure => omega
        case rel => exact ⟨rfl, by omega, by rw [HS.out]; exact HWA.out, HBA.out, HWA.out.lt⟩
end Go.Proofs.YtehmkkccnadhoaaDoor
namespace Go.Proofs.YtehmkkccnadhoaaDoor
open Go.RowKit
open Tr

set_option maxRecDepth 100000 in
set_option maxHeartbeats 600000 in
theorem down_none {G : Nat → Prop} (o : Option (Option T)) (p : Option Nat) (ht : topOf o = none) (A : Option Addr) (n c : Nat) (key : List UInt8) (w : World) (ho : GIn G w w.heap.size o p) :
    Calls Tryd.prog 16 #[ptr p, .slice A n c] w (DownPost none key w) := by
  have HO := Lib.hid (And.intro ho ht)
  have hbz : ∀ w, (Instr.build 26 #[]).run Tryd.prog w = .ok (.agg #[.slice none 0 0, .slice none 0 0, .slice none 0 0]) w := fun w => run_build w 26 #[] _ (by kernel_rfl)
  have hb0 : Below w.heap.size w (w.alloc (.cells #[.slice none 0 0, .slice none 0 0, .slice none 0 0] 26)) := (Below.refl _ _).alloc (Nat.le_refl _) _
  have HS0 := Lib.hid hb0
  clear ho ht hb0
  go_enter Tryd.func16, Tryd.ntmps16
  go_upto_region 2 with (fail)
  generalize w.alloc (.cells #[.slice none 0 0, .slice none 0 0, .slice none 0 0] 26) = w1 at *
  clear hbz
  go_wp2_with fail
  go_loopg [4, 5, 6] 0 (fun gk s4 s5 s6 wx => s6 = .slice none 0 0 ∧ Below w.heap.size w wx)
  case atStart => exact ⟨rfl, HS0.out⟩
  case round =>
    obtain ⟨rfl, hb⟩ := hrel
    clear HS0
    have hN := way_any (G := G) o p none 0 0 [] wr ((HO.out.1.below hb (Nat.le_refl _)).more hb.size) RdV.nil (by omega)
    rw [HO.out.2, oat_none] at hN
    have HN := Lib.hid hN
    have HB := Lib.hid hb
    clear hb hN
    go_wp2_with fail
    refine HN.out.mono ?_
    rintro e w2 (⟨_, rfl, hb2⟩ | ⟨s', cs, A1, n1, c1, A2, n2, c2, hs', _⟩)
    · have HB2 := Lib.hid (HB.out.trans (hb2.mono HB.out.size))
      have hz64 := zero64
      clear hb2 HN HB
      simp only []
      iterate 13 go_step
      clear hz64
      refine Sh.wpList_store_made rfl 67 (.tmp 7) (.tmp 16) rfl z64 z64 rfl rfl ?_ ?_ z64_one ?_
      · rw [z64_size]; exact info64
      · rfl
      have HB3 : Hid (Below w.heap.size w (w2.alloc (.cells z64 67))) := Lib.hid (HB2.out.alloc HB2.out.size _)
      generalize w2.alloc (.cells z64 67) = w3 at *
      go_wp2_with fail
      go_ret2
      exact .inl ⟨rfl, rfl, HB3.out⟩
    · cases hs'
theorem down_any {G : Nat → Prop} (o : Option (Option T)) (p : Option Nat) (A : Option Addr) (n c : Nat) (key : List UInt8) (w : World) (ho : GIn G w w.heap.size o p) (hkey : Rd w w.heap.size A n key) (hk1 : ∀ t, topOf o = some t → (∀ q ∈ t.leaves, 1 ≤ q.1.length) ∧ t.n ≤ 100000) :
    Calls Tryd.prog 16 #[ptr p, .slice A n c] w (DownPost (topOf o) key w) := by
  cases h : topOf o with
  | none => exact down_none o p h A n c key w ho
  | some t => exact down_some o p t h A n c key w ho hkey (hk1 t h).1 (hk1 t h).2
def noPf : Pf := ⟨[], [], []⟩
theorem nopf (w : World) : PfV w w.heap.size #[.slice none 0 0, .slice none 0 0, .slice none 0 0] noPf := ⟨none, 0, 0, none, 0, 0, none, 0, 0, rfl, Rd.nil, Nat.le_refl _, Rd.nil, Nat.le_refl _, ⟨RdV.nil, fun x hx => by cases hx⟩, Nat.le_refl _⟩
/-- What Make says of a tree. -/
def made (o : Option T) (key : List UInt8) : Pf × Bool :=
  match o with
  | none => (noPf, false)
  | some t => if (leafOf key t).key = key then (proofTo key t, true) else (noPf, false)
def MakePost (o : Option T) (key : List UInt8) (w : World) (e : Ending) (w' : World) : Prop :=
  ∃ X, e = .returned (.tuple #[.agg X, .bool (made o key).2]) ∧ PfV w' w'.heap.size X (made o key).1 ∧ Below w.heap.size w w'
theorem PfV.size {w : World} {B : Nat} {X : Array Value} {p : Pf} (h : PfV w B X p) : X.size = 3 ∧ X.all (·.oneCell') = true := by
  obtain ⟨A, n, c, A', n', c', A2, m, k, rfl, _⟩ := h
  exact ⟨rfl, by simp [Value.oneCell']⟩
theorem info26 : (Tryd.prog.info? 26).map (·.size) = some 3 := by kernel_rfl
theorem info31 : (Tryd.prog.info? 31).map (·.size) = some 2 := by kernel_rfl

set_option maxRecDepth 100000 in
set_option maxHeartbeats 600000 in
theorem make_any {G : Nat → Prop} (o : Option (Option T)) (p : Option Nat) (A : Option Addr) (n c : Nat) (key : List UInt8) (w : World) (ho : GIn G w w.heap.size o p) (hkey : Rd w w.heap.size A n key) (hk1 : ∀ t, topOf o = some t → (∀ q ∈ t.leaves, 1 ≤ q.1.length) ∧ t.n ≤ 100000) :
    Calls Tryd.prog 5 #[ptr p, .slice A n c] w (MakePost (topOf o) key w) := by
  have hz26 : ∀ w, (zeroValue 26).run Tryd.prog w = .ok (.agg #[.slice none 0 0, .slice none 0 0, .slice none 0 0]) w := (zero_of_info (P := Tryd.prog) (t := 26) (v := .agg #[.slice none 0 0, .slice none 0 0, .slice none 0 0]) (n := 3) (by kernel_rfl)).1
  have hbz : ∀ w, (Instr.build 26 #[]).run Tryd.prog w = .ok (.agg #[.slice none 0 0, .slice none 0 0, .slice none 0 0]) w := fun w => run_build w 26 #[] _ (by kernel_rfl)
  have hb0 : Below w.heap.size w (w.alloc (.cells #[.slice none 0 0, .slice none 0 0, .slice none 0 0] 26)) := (Below.refl _ _).alloc (Nat.le_refl _) _
  have hw0 := Whole.made w 26 #[.slice none 0 0, .slice none 0 0, .slice none 0 0]
  have HD := Lib.hid (down_any (G := G) o p A n c key (w.alloc (.cells #[.slice none 0 0, .slice none 0 0, .slice none 0 0] 26)) ((ho.below hb0 (Nat.le_refl _)).more hb0.size) ((hkey.below hb0 (Nat.le_refl _)).more hb0.size) hk1)
  have HB0 := Lib.hid hb0
  have HW0 := Lib.hid hw0
  have HK := Lib.hid hkey
  clear ho hkey hk1 hb0 hw0
  go_enter Tryd.func5, Tryd.ntmps5
  go_upto_region 1 with (fail)
  generalize w.alloc (.cells #[.slice none 0 0, .slice none 0 0, .slice none 0 0] 26) = w1 at *
  clear hz26
  go_wp2_with fail
  refine HD.out.mono ?_
  generalize topOf o = q at *
  rintro e w2 (⟨rfl, rfl, hb2⟩ | ⟨t, gp, X, v5, rfl, rfl, hW, hP, hN, hge, hnew, hb2⟩)
  · have HW2 := Lib.hid (HW0.out.below hb2 HW0.out.lt)
    have HB2 := Lib.hid (HB0.out.trans (hb2.mono HB0.out.size))
    clear hb2 HD HW0 HB0
    simp only []
    go_upto_region 3 with (fail)
    refine wp_region_lit ?_
    iterate 3 go_step
    refine wpList_store_mid rfl 26 (.tmp 4) (.tmp 25) rfl w.heap.size 0 #[.slice none 0 0, .slice none 0 0, .slice none 0 0] rfl rfl HW2.out.there_ info26 (nopf w).size.2 ?_
    have HWA : Hid (Whole (w2.setCells w.heap.size 0 [.slice none 0 0, .slice none 0 0, .slice none 0 0]) w.heap.size 26 #[.slice none 0 0, .slice none 0 0, .slice none 0 0]) := Lib.hid (HW2.out.setAll (vs := #[.slice none 0 0, .slice none 0 0, .slice none 0 0]) rfl)
    have HBA : Hid (Below w.heap.size w (w2.setCells w.heap.size 0 [.slice none 0 0, .slice none 0 0, .slice none 0 0])) := Lib.hid (below_setCells w w.heap.size _ 0 HB2.out (Nat.le_refl _))
    generalize w2.setCells w.heap.size 0 [.slice none 0 0, .slice none 0 0, .slice none 0 0] = wA at *
    go_wp2_with fail
    refine bodyPost_ret (results_cell2 Tryd.results5 _ _ _ ⟨w.heap.size, 0, none⟩ _ rfl (load_whole HWA.out 26 _ Tryd.underlying26 rfl info26)) rfl ?_
    exact ⟨_, rfl, nopf wA, HBA.out⟩
  · obtain ⟨A1, n1, c1, A2, n2, c2, A3, m, k, rfl, k1, k2, k3, k4, k5, k6⟩ := hP
    have HW2 := Lib.hid (HW0.out.below hb2 HW0.out.lt)
    have HB2 := Lib.hid (HB0.out.trans (hb2.mono HB0.out.size))
    have c0 := hW.at_ (i := 0) (v := .slice A1 n1 c1) rfl
    have hkw : Rd w2 w2.heap.size A n key := (HK.out.below HB2.out (Nat.le_refl _)).more HB2.out.size
    have HQ := Lib.hid (equal_any A1 A n1 c1 n c w2.heap.size w2.heap.size (leafOf key t).key key w2 k1 hkw)
    have HWG := Lib.hid hW
    have HPV : Hid (PfV w2 w2.heap.size #[.slice A1 n1 c1, .slice A2 n2 c2, .slice A3 m k] (proofTo key t)) := Lib.hid ⟨A1, n1, c1, A2, n2, c2, A3, m, k, rfl, k1, k2, k3, k4, k5, k6⟩
    obtain ⟨bq, hbq⟩ : ∃ b, ((leafOf key t).key == key) = b := ⟨_, rfl⟩
    rw [hbq] at HQ
    have HBQ := Lib.hid hbq
    have hne : w.heap.size ≠ gp := by have := HW0.out.lt; omega
    have HNE := Lib.hid hne
    have HNW : Hid (PfNew w1.heap.size #[.slice A1 n1 c1, .slice A2 n2 c2, .slice A3 m k]) := Lib.hid hnew
    have HS1 : Hid (w.heap.size < w1.heap.size) := Lib.hid HW0.out.lt
    clear hW hN hge hnew hb2 k1 k2 k3 k4 k5 k6 hkw hbq HD HW0 HB0 hne
    cases bq with
    | false =>
      simp only []
      go_wp2_with fail
      refine HQ.out.mono ?_
      rintro e wq ⟨rfl, rfl⟩
      go_upto_region 3 with (fail)
      refine wp_region_lit ?_
      iterate 3 go_step
      refine wpList_store_mid rfl 26 (.tmp 4) (.tmp 25) rfl w.heap.size 0 #[.slice none 0 0, .slice none 0 0, .slice none 0 0] rfl rfl HW2.out.there_ info26 (nopf w).size.2 ?_
      have HWA : Hid (Whole (w2.setCells w.heap.size 0 [.slice none 0 0, .slice none 0 0, .slice none 0 0]) w.heap.size 26 #[.slice none 0 0, .slice none 0 0, .slice none 0 0]) := Lib.hid (HW2.out.setAll (vs := #[.slice none 0 0, .slice none 0 0, .slice none 0 0]) rfl)
      have HBA : Hid (Below w.heap.size w (w2.setCells w.heap.size 0 [.slice none 0 0, .slice none 0 0, .slice none 0 0])) := Lib.hid (below_setCells w w.heap.size _ 0 HB2.out (Nat.le_refl _))
      generalize w2.setCells w.heap.size 0 [.slice none 0 0, .slice none 0 0, .slice none 0 0] = wA at *
      go_wp2_with fail
      refine bodyPost_ret (results_cell2 Tryd.results5 _ _ _ ⟨w.heap.size, 0, none⟩ _ rfl (load_whole HWA.out 26 _ Tryd.underlying26 rfl info26)) rfl ?_
      have h1 : ¬ (leafOf key t).key = key := by have := HBQ.out; simpa using this
      have h2 : made (some t) key = (noPf, false) := by simp only [made, if_neg h1]
      exact ⟨#[.slice none 0 0, .slice none 0 0, .slice none 0 0], by rw [h2]; rfl, by rw [h2]; exact nopf wA, HBA.out⟩
    | true =>
      simp only []
      go_wp2_with fail
      refine HQ.out.mono ?_
      rintro e wq ⟨rfl, rfl⟩
      clear hbz
      go_upto_region 4 with (fail)
      refine wp_region_lit ?_
      iterate 6 go_step
      refine wpList_load_mid rfl 26 (.tmp 27) rfl gp 0 rfl [.slice A1 n1 c1, .slice A2 n2 c2, .slice A3 m k] _ HWG.out.range Tryd.underlying26 rfl info26 ?_
      simp only [Act.put, List.setIfInBounds_toArray, List.set_cons_zero, List.set_cons_succ]
      refine wpList_store_mid rfl 26 (.tmp 4) (.tmp 28) rfl w.heap.size 0 #[.slice A1 n1 c1, .slice A2 n2 c2, .slice A3 m k] rfl rfl HW2.out.there_ info26 HPV.out.size.2 ?_
      have HWA : Hid (Whole (w2.setCells w.heap.size 0 [.slice A1 n1 c1, .slice A2 n2 c2, .slice A3 m k]) w.heap.size 26 #[.slice A1 n1 c1, .slice A2 n2 c2, .slice A3 m k]) := Lib.hid (HW2.out.setAll (vs := #[.slice A1 n1 c1, .slice A2 n2 c2, .slice A3 m k]) rfl)
      have HBA : Hid (Below w.heap.size w (w2.setCells w.heap.size 0 [.slice A1 n1 c1, .slice A2 n2 c2, .slice A3 m k])) := Lib.hid (below_setCells w w.heap.size _ 0 HB2.out (Nat.le_refl _))
      have HPA : Hid (PfV (w2.setCells w.heap.size 0 [.slice A1 n1 c1, .slice A2 n2 c2, .slice A3 m k]) (w2.setCells w.heap.size 0 [.slice A1 n1 c1, .slice A2 n2 c2, .slice A3 m k]).heap.size #[.slice A1 n1 c1, .slice A2 n2 c2, .slice A3 m k] (proofTo key t)) := Lib.hid (HPV.out.keepNew HNW.out (by rw [size_setCells]; exact Nat.le_refl _) (fun b h1 _ => heap_setCells_other w.heap.size b (by have := HS1.out; omega) _ 0 w2))
      generalize w2.setCells w.heap.size 0 [.slice A1 n1 c1, .slice A2 n2 c2, .slice A3 m k] = wA at *
      go_wp2_with fail
      refine bodyPost_ret (results_cell2 Tryd.results5 _ _ _ ⟨w.heap.size, 0, none⟩ _ rfl (load_whole HWA.out 26 _ Tryd.underlying26 rfl info26)) rfl ?_
      have h1 : (leafOf key t).key = key := by have := HBQ.out; simpa using this
      have h2 : made (some t) key = (proofTo key t, true) := by simp only [made, if_pos h1]
      exact ⟨#[.slice A1 n1 c1, .slice A2 n2 c2, .slice A3 m k], by rw [h2]; rfl, by rw [h2]; exact HPA.out, HBA.out⟩
end Go.Proofs.YtehmkkccnadhoaaDoor
namespace Go.Proofs.YtehmkkccnadhoaaDoor
open Go.RowKit
open Tr

/-- A side of a gap. -/
def PtrV (w : World) (v : Value) (o : Option Pf) : Prop := (o = none ∧ v = .pointer none) ∨ ∃ p g Y, o = some p ∧ v = .pointer (some ⟨g, 0, none⟩) ∧ Whole w g 26 Y ∧ PfV w w.heap.size Y p
theorem PtrV.on {w w' : World} {v : Value} {o : Option Pf} (h : PtrV w v o) (hb : Below w.heap.size w w') : PtrV w' v o := by
  rcases h with h | ⟨p, g, Y, h1, h2, h3, h4⟩
  · exact .inl h
  · exact .inr ⟨p, g, Y, h1, h2, h3.below hb h3.lt, h4.on hb⟩
theorem PtrV.none (w : World) : PtrV w (.pointer none) none := .inl ⟨rfl, rfl⟩
/-- What None says of a tree: the sides, and whether the key isn't there. -/
def gapTo (o : Option T) (key : List UInt8) : (Option Pf × Option Pf) × Bool :=
  match o with
  | none => ((none, none), true)
  | some t => if (leafOf key t).key = key then ((none, none), false) else if lt key (leafOf key t).key = true then ((none, some (proofTo key t)), true) else ((some (proofTo key t), (nextTo key t none).map fun k => proofTo k t), true)
def NonePost (o : Option T) (key : List UInt8) (w : World) (e : Ending) (w' : World) : Prop :=
  ∃ v1 v2, e = .returned (.tuple #[.agg #[v1, v2], .bool (gapTo o key).2]) ∧ PtrV w' v1 (gapTo o key).1.1 ∧ PtrV w' v2 (gapTo o key).1.2 ∧ Below w.heap.size w w'
theorem gap_one (a b : Option Addr) : (#[Value.pointer a, Value.pointer b] : Array Value).all (·.oneCell') = true := by simp [Value.oneCell']
theorem built_left (a : Option Addr) (w : World) : (Instr.build 31 (#[(0, .pointer a)] : Array (Nat × Value))).run Tryd.prog w = .ok (.agg #[.pointer a, .pointer none]) w := run_build w 31 _ _ (by kernel_rfl)
theorem built_right (a : Option Addr) (w : World) : (Instr.build 31 (#[(1, .pointer a)] : Array (Nat × Value))).run Tryd.prog w = .ok (.agg #[.pointer none, .pointer a]) w := run_build w 31 _ _ (by kernel_rfl)
theorem built_none (w : World) : (Instr.build 31 #[]).run Tryd.prog w = .ok (.agg #[.pointer none, .pointer none]) w := run_build w 31 _ _ (by kernel_rfl)
theorem neq_nil (A : Option Addr) (n c : Nat) (w : World) : (binOp .neq 22 (.slice A n c) (.slice none 0 0)).run Tryd.prog w = .ok (.bool (!A.isNone)) w := by
  simp only [binOp]
  simp [Op.equal, Op.maxDepth, Lib.run_equalIn_slice_nil w 9999 22 5 A n c 0 0 Tryd.underlying22]
theorem zero31 : ∀ w, (zeroValue 31).run Tryd.prog w = .ok (.agg #[.pointer none, .pointer none]) w := (zero_of_info (P := Tryd.prog) (t := 31) (v := .agg #[.pointer none, .pointer none]) (n := 2) (by kernel_rfl)).1

set_option maxRecDepth 100000 in
set_option maxHeartbeats 600000 in
theorem none_any {G : Nat → Prop} (o : Option (Option T)) (p : Option Nat) (A : Option Addr) (n c : Nat) (key : List UInt8) (w : World) (ho : GIn G w w.heap.size o p) (hkey : Rd w w.heap.size A n key) (hk1 : ∀ t, topOf o = some t → (∀ q ∈ t.leaves, 1 ≤ q.1.length) ∧ t.n ≤ 100000) :
    Calls Tryd.prog 6 #[ptr p, .slice A n c] w (NonePost (topOf o) key w) := by
  have hz31 := zero31
  have hb0 : Below w.heap.size w (w.alloc (.cells #[.pointer none, .pointer none] 31)) := (Below.refl _ _).alloc (Nat.le_refl _) _
  have hw0 := Whole.made w 31 #[.pointer none, .pointer none]
  have HD := Lib.hid (down_any (G := G) o p A n c key (w.alloc (.cells #[.pointer none, .pointer none] 31)) ((ho.below hb0 (Nat.le_refl _)).more hb0.size) ((hkey.below hb0 (Nat.le_refl _)).more hb0.size) hk1)
  have HB0 := Lib.hid hb0
  have HW0 := Lib.hid hw0
  have HK := Lib.hid hkey
  have HO := Lib.hid (And.intro ho hk1)
  clear ho hkey hk1 hb0 hw0
  go_enter Tryd.func6, Tryd.ntmps6
  go_upto_region 1 with (fail)
  generalize w.alloc (.cells #[.pointer none, .pointer none] 31) = w1 at *
  clear hz31
  have hs1 : w.heap.size < w1.heap.size := HW0.out.lt
  go_wp2_with fail
  refine HD.out.mono ?_
  obtain ⟨q, hq⟩ : ∃ q, topOf o = q := ⟨_, rfl⟩
  rw [hq]
  have HQ := Lib.hid hq
  rintro e w2 (⟨rfl, rfl, hb2⟩ | ⟨t, gp, X, v5, rfl, rfl, hW, hP, hN, hge, hnew, hb2⟩)
  · have HWR := Lib.hid (HW0.out.below hb2 HW0.out.lt)
    have HBW := Lib.hid (HB0.out.trans (hb2.mono HB0.out.size))
    have hbn := built_none
    clear hb2 HD HW0 HB0 hq
    simp only []
    go_upto_region 3 with (fail)
    refine wp_region_lit ?_
    iterate 3 go_step
    refine wpList_store_mid rfl 31 (.tmp 4) (.tmp 18) rfl w.heap.size 0 #[.pointer none, .pointer none] rfl rfl HWR.out.there_ info31 (gap_one _ _) ?_
    have HWA : Hid (Whole (w2.setCells w.heap.size 0 #[.pointer none, .pointer none].toList) w.heap.size 31 #[.pointer none, .pointer none]) := Lib.hid (HWR.out.setAll rfl)
    have HBA : Hid (Below w.heap.size w (w2.setCells w.heap.size 0 #[.pointer none, .pointer none].toList)) := Lib.hid (below_setCells w w.heap.size _ 0 HBW.out (Nat.le_refl _))
    have HKA : Hid (∀ b, b ≠ w.heap.size → (w2.setCells w.heap.size 0 #[.pointer none, .pointer none].toList).heap[b]? = w2.heap[b]?) := Lib.hid (fun b hb => heap_setCells_other w.heap.size b hb _ 0 w2)
    have HZA : Hid ((w2.setCells w.heap.size 0 #[.pointer none, .pointer none].toList).heap.size = w2.heap.size) := Lib.hid (size_setCells _ _ _ _)
    generalize w2.setCells w.heap.size 0 #[.pointer none, .pointer none].toList = wA at *
    go_wp2_with fail
    refine bodyPost_ret (results_cell2 Tryd.results6 _ _ _ ⟨w.heap.size, 0, none⟩ _ rfl (load_whole HWA.out 31 _ Tryd.underlying31 rfl info31)) rfl ?_
    have h2 : gapTo (topOf o) key = ((none, none), true) := by rw [HQ.out]; rfl
    exact ⟨.pointer none, .pointer none, by rw [h2]; rfl, by rw [h2]; exact PtrV.none _, by rw [h2]; exact PtrV.none _, HBA.out⟩
  · obtain ⟨A1, n1, c1, A2, n2, c2, A3, m, k, rfl, k1, k2, k3, k4, k5, k6⟩ := hP
    have HWR := Lib.hid (HW0.out.below hb2 HW0.out.lt)
    have HBW := Lib.hid (HB0.out.trans (hb2.mono HB0.out.size))
    have c0 := hW.at_ (i := 0) (v := .slice A1 n1 c1) rfl
    have hkw : Rd w2 w2.heap.size A n key := (HK.out.below HBW.out (Nat.le_refl _)).more HBW.out.size
    have HCM := Lib.hid (compare_any A1 A n1 c1 n c w2.heap.size w2.heap.size (leafOf key t).key key w2 k1 hkw)
    have HWG := Lib.hid hW
    have HPV : Hid (PfV w2 w2.heap.size #[.slice A1 n1 c1, .slice A2 n2 c2, .slice A3 m k] (proofTo key t)) := Lib.hid ⟨A1, n1, c1, A2, n2, c2, A3, m, k, rfl, k1, k2, k3, k4, k5, k6⟩
    have HNW : Hid (PfNew w1.heap.size #[.slice A1 n1 c1, .slice A2 n2 c2, .slice A3 m k]) := Lib.hid hnew
    have HNX := Lib.hid hN
    have HGE := Lib.hid hge
    have HB2 := Lib.hid hb2
    obtain ⟨z, hz⟩ : ∃ z, Lib.compareBytes (leafOf key t).key key = z := ⟨_, rfl⟩
    rw [hz] at HCM
    have HZ := Lib.hid hz
    clear hW hN hge hnew hb2 k1 k2 k3 k4 k5 k6 hkw hz HD HW0 HB0
    simp only []
    by_cases hkk : (leafOf key t).key = key
    · have hz0 : (z == 0) = true := by rw [← HZ.out, hkk, cmp_self]; rfl
      have hbn := built_none
      go_wp2_with fail
      refine HCM.out.mono ?_
      rintro e wq ⟨rfl, rfl⟩
      go_upto_region 6 with (fail)
      refine wp_region_lit ?_
      iterate 3 go_step
      refine wpList_store_mid rfl 31 (.tmp 4) (.tmp 27) rfl w.heap.size 0 #[.pointer none, .pointer none] rfl rfl HWR.out.there_ info31 (gap_one _ _) ?_
      have HWA : Hid (Whole (w2.setCells w.heap.size 0 #[.pointer none, .pointer none].toList) w.heap.size 31 #[.pointer none, .pointer none]) := Lib.hid (HWR.out.setAll rfl)
      have HBA : Hid (Below w.heap.size w (w2.setCells w.heap.size 0 #[.pointer none, .pointer none].toList)) := Lib.hid (below_setCells w w.heap.size _ 0 HBW.out (Nat.le_refl _))
      have HKA : Hid (∀ b, b ≠ w.heap.size → (w2.setCells w.heap.size 0 #[.pointer none, .pointer none].toList).heap[b]? = w2.heap[b]?) := Lib.hid (fun b hb => heap_setCells_other w.heap.size b hb _ 0 w2)
      have HZA : Hid ((w2.setCells w.heap.size 0 #[.pointer none, .pointer none].toList).heap.size = w2.heap.size) := Lib.hid (size_setCells _ _ _ _)
      generalize w2.setCells w.heap.size 0 #[.pointer none, .pointer none].toList = wA at *
      go_wp2_with fail
      refine bodyPost_ret (results_cell2 Tryd.results6 _ _ _ ⟨w.heap.size, 0, none⟩ _ rfl (load_whole HWA.out 31 _ Tryd.underlying31 rfl info31)) rfl ?_
      have h2 : gapTo (topOf o) key = ((none, none), false) := by rw [HQ.out]; simp only [gapTo, if_pos hkk]
      exact ⟨.pointer none, .pointer none, by rw [h2]; rfl, by rw [h2]; exact PtrV.none _, by rw [h2]; exact PtrV.none _, HBA.out⟩
    · cases hlt : lt key (leafOf key t).key with
      | true =>
        have hz1 : z = 1 := by rw [← HZ.out]; exact cmp_gt _ _ hlt
        have hz0 : (z == 0) = false := by rw [hz1]; rfl
        have hz2 : decide (0 < z) = true := by rw [hz1]; rfl
        have hbr := built_right
        clear hz1
        go_wp2_with fail
        refine HCM.out.mono ?_
        rintro e wq ⟨rfl, rfl⟩
        go_upto_region 8 with (fail)
        refine wp_region_lit ?_
        iterate 6 go_step
        refine wpList_store_mid rfl 31 (.tmp 4) (.tmp 31) rfl w.heap.size 0 #[.pointer none, .pointer (some ⟨gp, 0, none⟩)] rfl rfl HWR.out.there_ info31 (gap_one _ _) ?_
        have HWA : Hid (Whole (w2.setCells w.heap.size 0 #[.pointer none, .pointer (some ⟨gp, 0, none⟩)].toList) w.heap.size 31 #[.pointer none, .pointer (some ⟨gp, 0, none⟩)]) := Lib.hid (HWR.out.setAll rfl)
        have HBA : Hid (Below w.heap.size w (w2.setCells w.heap.size 0 #[.pointer none, .pointer (some ⟨gp, 0, none⟩)].toList)) := Lib.hid (below_setCells w w.heap.size _ 0 HBW.out (Nat.le_refl _))
        have HKA : Hid (∀ b, b ≠ w.heap.size → (w2.setCells w.heap.size 0 #[.pointer none, .pointer (some ⟨gp, 0, none⟩)].toList).heap[b]? = w2.heap[b]?) := Lib.hid (fun b hb => heap_setCells_other w.heap.size b hb _ 0 w2)
        have HZA : Hid ((w2.setCells w.heap.size 0 #[.pointer none, .pointer (some ⟨gp, 0, none⟩)].toList).heap.size = w2.heap.size) := Lib.hid (size_setCells _ _ _ _)
        generalize w2.setCells w.heap.size 0 #[.pointer none, .pointer (some ⟨gp, 0, none⟩)].toList = wA at *
        go_wp2_with fail
        refine bodyPost_ret (results_cell2 Tryd.results6 _ _ _ ⟨w.heap.size, 0, none⟩ _ rfl (load_whole HWA.out 31 _ Tryd.underlying31 rfl info31)) rfl ?_
        have h2 : gapTo (topOf o) key = ((none, some (proofTo key t)), true) := by rw [HQ.out]; simp only [gapTo, if_neg hkk, if_pos hlt]
        have hp2 : PtrV wA (.pointer (some ⟨gp, 0, none⟩)) (some (proofTo key t)) := .inr ⟨_, gp, _, rfl, rfl, (HKA.out gp (by have := HGE.out; omega)).trans HWG.out, HPV.out.keepNew HNW.out (by rw [HZA.out]; exact Nat.le_refl _) (fun b h1 _ => HKA.out b (by omega))⟩
        exact ⟨.pointer none, .pointer (some ⟨gp, 0, none⟩), by rw [h2]; rfl, by rw [h2]; exact PtrV.none _, by rw [h2]; exact hp2, HBA.out⟩
      | false =>
        have hl2 : lt (leafOf key t).key key = true := by
          rcases Bool.eq_false_or_eq_true (lt (leafOf key t).key key) with h | h
          · exact h
          · exact absurd (lt_tri _ _ h hlt) hkk
        have hz1 : z = -1 := by rw [← HZ.out]; exact cmp_lt _ _ hl2
        have hz0 : (z == 0) = false := by rw [hz1]; rfl
        have hz2 : decide (0 < z) = false := by rw [hz1]; rfl
        have hbl := built_left
        have hz31 := zero31
        clear hz1 hl2
        go_wp2_with fail
        refine HCM.out.mono ?_
        rintro e wq ⟨rfl, rfl⟩
        go_upto_region 9 with (fail)
        refine wp_region_lit ?_
        iterate 9 go_step
        refine Sh.wpList_store_made rfl 31 (.tmp 9) (.tmp 33) rfl #[.pointer none, .pointer none] #[.pointer (some ⟨gp, 0, none⟩), .pointer none] rfl rfl info31 rfl (gap_one _ _) ?_
        have hb4 : Below w2.heap.size w2 (w2.alloc (.cells #[.pointer (some ⟨gp, 0, none⟩), .pointer none] 31)) := (Below.refl _ _).alloc (Nat.le_refl _) _
        have hw4 := Whole.made w2 31 #[.pointer (some ⟨gp, 0, none⟩), .pointer none]
        obtain ⟨g9, hg9⟩ : ∃ g9, g9 = w2.heap.size := ⟨_, rfl⟩
        rw [← hg9] at hw4 ⊢
        have hz4 : (w2.alloc (.cells #[.pointer (some ⟨gp, 0, none⟩), .pointer none] 31)).heap.size = w2.heap.size + 1 := size_alloc _ _
        have hgl : w.heap.size < g9 := by have := HWR.out.lt; omega
        have HWR4 := Lib.hid (HWR.out.below hb4 HWR.out.lt)
        have HBW4 := Lib.hid (HBW.out.trans (hb4.mono HBW.out.size))
        have HWG4 := Lib.hid (HWG.out.below hb4 HWG.out.lt)
        have HPV4 := Lib.hid (HPV.out.on hb4)
        have HNX4 := Lib.hid (HNX.out.on hb4)
        have HG9 := Lib.hid hw4
        have HB4 := Lib.hid hb4
        have HPV2 := HPV
        have HGG : Hid (g9 = w2.heap.size) := Lib.hid hg9
        have HGP : Hid (gp < g9) := Lib.hid (by rw [hg9]; exact HWG.out.lt)
        clear hb4 hw4 hz4 HWR HBW HWG HPV HNX hbl hz31 HB2
        generalize w2.alloc (.cells #[.pointer (some ⟨gp, 0, none⟩), .pointer none] 31) = w4 at *
        clear hg9 c0
        rcases HNX4.out with ⟨hnx, rfl⟩ | ⟨kn, b5, o5, n5, c5, hnx, rfl, hr5, hn5, hp5⟩
        · have HNE := Lib.hid hnx
          have hnn := neq_nil
          have HWR := HWR4
          have HBW := HBW4
          clear hnx HWR4 HBW4 HNX4
          go_upto_region 12 with (fail)
          refine wp_region_lit ?_
          refine wpList_load_mid rfl 31 (.tmp 9) rfl g9 0 rfl [.pointer (some ⟨gp, 0, none⟩), .pointer none] _ HG9.out.range Tryd.underlying31 rfl info31 ?_
          simp only [Act.put, List.setIfInBounds_toArray, List.set_cons_zero, List.set_cons_succ]
          refine wpList_store_mid rfl 31 (.tmp 4) (.tmp 43) rfl w.heap.size 0 #[.pointer (some ⟨gp, 0, none⟩), .pointer none] rfl rfl HWR.out.there_ info31 (gap_one _ _) ?_
          have HWA : Hid (Whole (w4.setCells w.heap.size 0 #[.pointer (some ⟨gp, 0, none⟩), .pointer none].toList) w.heap.size 31 #[.pointer (some ⟨gp, 0, none⟩), .pointer none]) := Lib.hid (HWR.out.setAll rfl)
          have HBA : Hid (Below w.heap.size w (w4.setCells w.heap.size 0 #[.pointer (some ⟨gp, 0, none⟩), .pointer none].toList)) := Lib.hid (below_setCells w w.heap.size _ 0 HBW.out (Nat.le_refl _))
          have HKA : Hid (∀ b, b ≠ w.heap.size → (w4.setCells w.heap.size 0 #[.pointer (some ⟨gp, 0, none⟩), .pointer none].toList).heap[b]? = w4.heap[b]?) := Lib.hid (fun b hb => heap_setCells_other w.heap.size b hb _ 0 w4)
          have HZA : Hid ((w4.setCells w.heap.size 0 #[.pointer (some ⟨gp, 0, none⟩), .pointer none].toList).heap.size = w4.heap.size) := Lib.hid (size_setCells _ _ _ _)
          generalize w4.setCells w.heap.size 0 #[.pointer (some ⟨gp, 0, none⟩), .pointer none].toList = wA at *
          go_wp2_with fail
          refine bodyPost_ret (results_cell2 Tryd.results6 _ _ _ ⟨w.heap.size, 0, none⟩ _ rfl (load_whole HWA.out 31 _ Tryd.underlying31 rfl info31)) rfl ?_
          have h2 : gapTo (topOf o) key = ((some (proofTo key t), none), true) := by
            rw [HQ.out]
            simp only [gapTo, if_neg hkk, hlt, HNE.out]
            rfl
          have hp1 : PtrV wA (.pointer (some ⟨gp, 0, none⟩)) (some (proofTo key t)) := .inr ⟨_, gp, _, rfl, rfl, (HKA.out gp (by have := HGE.out; omega)).trans HWG4.out, HPV4.out.keepNew HNW.out (by rw [HZA.out]; exact Nat.le_refl _) (fun b h1 _ => HKA.out b (by omega))⟩
          exact ⟨.pointer (some ⟨gp, 0, none⟩), .pointer none, by rw [h2]; rfl, by rw [h2]; exact hp1, by rw [h2]; exact PtrV.none _, HBA.out⟩
        · have HNE := Lib.hid hnx
          have hnn := neq_nil
          have HD2 := Lib.hid (down_any (G := G) o p (some ⟨b5, o5, none⟩) n5 c5 kn w4 ((HO.out.1.below HBW4.out (Nat.le_refl _)).more HBW4.out.size) hr5 HO.out.2)
          rw [HQ.out] at HD2
          clear hnx HNX4 hr5 hn5 hp5
          go_wp2_with fail
          refine HD2.out.mono ?_
          rintro e w5 (⟨h, _⟩ | ⟨t', gq, X', v5', ht', rfl, hW', hP', _, hge', hnew', hb5⟩)
          · cases h
          injection ht' with ht'
          subst ht'
          have hg9w : g9 < w4.heap.size := HG9.out.lt
          have x1 : w5.cell? ⟨g9, 1, none⟩ = some (.pointer none) := (HG9.out.below hb5 hg9w).at_ rfl
          have f1 := (HG9.out.below hb5 hg9w).free 1
          have hg6 := (HG9.out.below hb5 hg9w).set 1 (.pointer (some ⟨gq, 0, none⟩))
          have HK6 : Hid (∀ b, b ≠ g9 → (w5.setCell ⟨g9, 1, none⟩ (.pointer (some ⟨gq, 0, none⟩))).heap[b]? = w5.heap[b]?) := Lib.hid (fun b hb => Below.heap_setCell w5 ⟨g9, 1, none⟩ _ b hb)
          have HZ6 : Hid ((w5.setCell ⟨g9, 1, none⟩ (.pointer (some ⟨gq, 0, none⟩))).heap.size = w5.heap.size) := Lib.hid (World.size_setCell _ _ _)
          have HBW : Hid (Below w.heap.size w (w5.setCell ⟨g9, 1, none⟩ (.pointer (some ⟨gq, 0, none⟩)))) := Lib.hid ((HBW4.out.trans (hb5.mono HBW4.out.size)).setCell (p := ⟨g9, 1, none⟩) (by show w.heap.size ≤ g9; omega) _)
          have HWR : Hid (Whole (w5.setCell ⟨g9, 1, none⟩ (.pointer (some ⟨gq, 0, none⟩))) w.heap.size 31 #[.pointer none, .pointer none]) := Lib.hid ((HWR4.out.below hb5 HWR4.out.lt).other (p := ⟨g9, 1, none⟩) (by show w.heap.size ≠ g9; omega) _)
          have HG9' := Lib.hid hg6
          have HB5 := Lib.hid hb5
          have HQP := Lib.hid (And.intro hW' (And.intro hP' (And.intro hge' hnew')))
          clear hg6 hW' hP' hge' hnew' hb5 HD2 HBW4
          go_upto_region 12 with (fail)
          generalize w5.setCell ⟨g9, 1, none⟩ (.pointer (some ⟨gq, 0, none⟩)) = w6 at *
          clear x1 f1 HG9
          have HG9 : Hid (Whole w6 g9 31 #[.pointer (some ⟨gp, 0, none⟩), .pointer (some ⟨gq, 0, none⟩)]) := HG9'
          refine wp_region_lit ?_
          refine wpList_load_mid rfl 31 (.tmp 9) rfl g9 0 rfl [.pointer (some ⟨gp, 0, none⟩), .pointer (some ⟨gq, 0, none⟩)] _ HG9.out.range Tryd.underlying31 rfl info31 ?_
          simp only [Act.put, List.setIfInBounds_toArray, List.set_cons_zero, List.set_cons_succ]
          refine wpList_store_mid rfl 31 (.tmp 4) (.tmp 43) rfl w.heap.size 0 #[.pointer (some ⟨gp, 0, none⟩), .pointer (some ⟨gq, 0, none⟩)] rfl rfl HWR.out.there_ info31 (gap_one _ _) ?_
          have HWA : Hid (Whole (w6.setCells w.heap.size 0 #[.pointer (some ⟨gp, 0, none⟩), .pointer (some ⟨gq, 0, none⟩)].toList) w.heap.size 31 #[.pointer (some ⟨gp, 0, none⟩), .pointer (some ⟨gq, 0, none⟩)]) := Lib.hid (HWR.out.setAll rfl)
          have HBA : Hid (Below w.heap.size w (w6.setCells w.heap.size 0 #[.pointer (some ⟨gp, 0, none⟩), .pointer (some ⟨gq, 0, none⟩)].toList)) := Lib.hid (below_setCells w w.heap.size _ 0 HBW.out (Nat.le_refl _))
          have HKA : Hid (∀ b, b ≠ w.heap.size → (w6.setCells w.heap.size 0 #[.pointer (some ⟨gp, 0, none⟩), .pointer (some ⟨gq, 0, none⟩)].toList).heap[b]? = w6.heap[b]?) := Lib.hid (fun b hb => heap_setCells_other w.heap.size b hb _ 0 w6)
          have HZA : Hid ((w6.setCells w.heap.size 0 #[.pointer (some ⟨gp, 0, none⟩), .pointer (some ⟨gq, 0, none⟩)].toList).heap.size = w6.heap.size) := Lib.hid (size_setCells _ _ _ _)
          generalize w6.setCells w.heap.size 0 #[.pointer (some ⟨gp, 0, none⟩), .pointer (some ⟨gq, 0, none⟩)].toList = wA at *
          go_wp2_with fail
          refine bodyPost_ret (results_cell2 Tryd.results6 _ _ _ ⟨w.heap.size, 0, none⟩ _ rfl (load_whole HWA.out 31 _ Tryd.underlying31 rfl info31)) rfl ?_
          have h2 : gapTo (topOf o) key = ((some (proofTo key t), some (proofTo kn t)), true) := by
            rw [HQ.out]
            simp only [gapTo, if_neg hkk, hlt, HNE.out]
            rfl
          have hp1 : PtrV wA (.pointer (some ⟨gp, 0, none⟩)) (some (proofTo key t)) := .inr ⟨_, gp, _, rfl, rfl, ((HKA.out gp (by have := HGE.out; omega)).trans (HK6.out gp (by have := HGP.out; omega))).trans (HWG4.out.below HB5.out HWG4.out.lt), HPV2.out.keepNew HNW.out (by have h1 := HB4.out.size; have h2 := HB5.out.size; have h3 := HZA.out; have h4 := HZ6.out; omega) (fun b h1 h2 => (((HKA.out b (by omega)).trans (HK6.out b (by have := HGG.out; omega))).trans (HB5.out.block b (by have := HB4.out.size; omega))).trans (HB4.out.block b h2))⟩
          have hp2 : PtrV wA (.pointer (some ⟨gq, 0, none⟩)) (some (proofTo kn t)) := by
            obtain ⟨hW', hP', hge', hnew'⟩ := HQP.out
            refine .inr ⟨_, gq, _, rfl, rfl, ((HKA.out gq (by omega)).trans (HK6.out gq (by omega))).trans hW', hP'.keepNew hnew' (by rw [HZA.out, HZ6.out]; exact Nat.le_refl _) (fun b h1 _ => (HKA.out b (by omega)).trans (HK6.out b (by omega)))⟩
          exact ⟨.pointer (some ⟨gp, 0, none⟩), .pointer (some ⟨gq, 0, none⟩), by rw [h2]; rfl, by rw [h2]; exact hp1, by rw [h2]; exact hp2, HBA.out⟩
end Go.Proofs.YtehmkkccnadhoaaDoor
