/-
  What a tree's All returns: its pairs, rising by keys; condition: the tree lies in memory and has no more than 1000 leaves. It only makes memory of its own.
-/
import Derived.Test.YtolkpjbbfopmnaaDoorGrow
namespace Go.Proofs.YtolkpjbbfopmnaaDoor
open Go.RowKit
open Tr
variable {G : Nat → Prop}

set_option maxRecDepth 100000 in
theorem visit_upto (N : Nat) (f : Nat) (C : Value) (ent : ∀ args w, (callFunc f args).run Tryd.prog w = .ok (.enter f args) w) (w0 : World) (B : Nat) (I : List T → World → Prop) (hb : ∀ ns w, I ns w → Below B w0 w)
    (hI : ∀ s b ns w, ns.length < N → NIn G w0 B s b → I ns w → Calls Tryd.prog f #[ptr (some b), C] w fun e w' => e = .returned undef ∧ I (ns ++ [s]) w') :
    ∀ (t : T) (b : Nat) (ns : List T) (w : World), ns.length + t.all.length ≤ N → NIn G w0 B t b → I ns w → Calls Tryd.prog 41 #[ptr (some b), .func (.func f) #[] #[C]] w fun e w' => e = .returned undef ∧ I (ns ++ t.all) w'
  | .leaf k v, b, ns, w, hN, h, hi => by
    have HC := Lib.hid (hI _ b ns w (by rw [show (T.leaf k v).all.length = 1 from rfl] at hN; omega) h hi)
    clear hN
    obtain ⟨A, n, c, A', n', c', hh⟩ := h
    have HH := Lib.hid hh
    have HBB := Lib.hid hb
    rw [ptr_some] at HC ⊢
    clear hi hI hh hb
    go_enter Tryd.func41, Tryd.ntmps41
    go_wp2_with fail
    refine HC.out.mono ?_
    rintro e w1 ⟨rfl, hi1⟩
    obtain ⟨_, _, _, _, c100, c101⟩ := (HH.out.below (HBB.out _ _ hi1) (Nat.le_refl _)).cells
    rw [ptr_none] at c100 c101
    have HI1 := Lib.hid hi1
    have HN := Lib.hid (visit_nil (.func (.func f) #[] #[C]) w1)
    clear hi1 HC
    go_wp2_with fail
    refine HN.out.mono ?_
    rintro e w2 ⟨rfl, rfl⟩
    go_wp2_with fail
    refine HN.out.mono ?_
    rintro e w2 ⟨rfl, rfl⟩
    go_wp2_with fail
    refine bodyPost_end (results_none rfl _ _ _) rfl ?_
    exact ⟨rfl, HI1.out⟩
  | .node l r, b, ns, w, hN, h, hi => by
    have hal : (T.node l r).all.length = 1 + (l.all.length + r.all.length) := by show (T.node l r :: (l.all ++ r.all)).length = _; rw [List.length_cons, List.length_append]; omega
    have HC := Lib.hid (hI _ b ns w (by omega) h hi)
    have HN := Lib.hid (show ns.length + (1 + (l.all.length + r.all.length)) ≤ N by omega)
    clear hN hal
    obtain ⟨A, n, c, A', n', c', x, y, hh, hx, hy⟩ := h
    have HH := Lib.hid hh
    have HBB := Lib.hid hb
    have HX := Lib.hid hx
    have HY := Lib.hid hy
    have HL := Lib.hid (visit_upto N f C ent w0 B I hb hI l x)
    have HR := Lib.hid (visit_upto N f C ent w0 B I hb hI r y)
    rw [ptr_some] at HC HL HR ⊢
    clear hi hI hh hb hx hy
    go_enter Tryd.func41, Tryd.ntmps41
    go_wp2_with fail
    refine HC.out.mono ?_
    rintro e w1 ⟨rfl, hi1⟩
    obtain ⟨_, _, _, _, c100, c101⟩ := (HH.out.below (HBB.out _ _ hi1) (Nat.le_refl _)).cells
    rw [ptr_some] at c100 c101
    have HC1 := Lib.hid (HL.out _ w1 (by have := HN.out; rw [List.length_append, List.length_singleton]; omega) HX.out hi1)
    clear hi1 HC HL c101
    go_wp2_with fail
    refine HC1.out.mono ?_
    rintro e w2 ⟨rfl, hi2⟩
    clear c100 HC1
    obtain ⟨_, _, _, _, c100, c101⟩ := (HH.out.below (HBB.out _ _ hi2) (Nat.le_refl _)).cells
    rw [ptr_some] at c100 c101
    have HC2 := Lib.hid (HR.out _ w2 (by have := HN.out; rw [List.length_append, List.length_append, List.length_singleton]; omega) HY.out hi2)
    clear hi2 HR c100
    go_wp2_with fail
    refine HC2.out.mono ?_
    rintro e w3 ⟨rfl, hi3⟩
    have HI3 := Lib.hid hi3
    clear c101 hi3 HC2
    go_wp2_with fail
    refine bodyPost_end (results_none rfl _ _ _) rfl ?_
    refine ⟨rfl, ?_⟩
    have := HI3.out
    rw [show ns ++ (T.node l r).all = ns ++ [T.node l r] ++ l.all ++ r.all by simp [T.all]]
    exact this

/-- The pairs of leaves among nodes. -/
def lvs (ns : List T) : Prs := ns.flatMap fun t => match t with
  | .leaf k v => [(k, v)]
  | .node _ _ => []
theorem lvs_append (a b : List T) : lvs (a ++ b) = lvs a ++ lvs b := List.flatMap_append
theorem lvs_all : ∀ t : T, lvs t.all = t.leaves
  | .leaf _ _ => rfl
  | .node l r => by
    show lvs (.node l r :: (l.all ++ r.all)) = _
    rw [show (T.node l r :: (l.all ++ r.all)) = [T.node l r] ++ (l.all ++ r.all) from rfl, lvs_append, lvs_append, lvs_all l, lvs_all r]
    rfl
theorem lvs_le (ns : List T) : (lvs ns).length ≤ ns.length := by
  induction ns with
  | nil => exact Nat.le_refl _
  | cons t r ih =>
    rw [show (t :: r) = [t] ++ r from rfl, lvs_append, List.length_append, List.length_append]
    cases t with
    | leaf k v => show 1 + _ ≤ 1 + _; omega
    | node l r' => show 0 + _ ≤ 1 + _; omega
theorem all_len : ∀ t : T, t.all.length + 1 = 2 * t.n
  | .leaf _ _ => rfl
  | .node l r => by
    have h1 := all_len l
    have h2 := all_len r
    show (T.node l r :: (l.all ++ r.all)).length + 1 = 2 * (l.n + r.n)
    rw [List.length_cons, List.length_append]
    omega

theorem own_keep {w w' : World} {base size n : Nat} {e : TypeId} {v : Value} {xs : List Value} (h : w.ownsRow base e size v n xs) (hb : Below w.heap.size w w') : w'.ownsRow base e size v n xs :=
  h.kept (row := none) ⟨hb.os, hb.tape, hb.output, hb.size, fun i hi _ => hb.block i hi⟩ (by cases v.ownBlock <;> simp)
/-- Bytes behind block g, in another block than the row's. -/
def RdG (w : World) (g : Nat) (row : Option Nat) (A : Option Addr) (n : Nat) (bs : List UInt8) : Prop := RdX w w.heap.size row A n bs ∧ ∀ b o, A = some ⟨b, o, none⟩ → 0 < n → g < b ∧ ∀ j, w.frozen? ⟨b, j, none⟩ = false
theorem RdG.free {w w' : World} {g n : Nat} {row : Option Nat} {A : Option Addr} {bs : List UInt8} (h : RdG w g row A n bs) (hk : ∀ b, b < w.heap.size → row ≠ some b → w'.heap[b]? = w.heap[b]?) : ∀ b o, A = some ⟨b, o, none⟩ → 0 < n → g < b ∧ ∀ j, w'.frozen? ⟨b, j, none⟩ = false := fun b o e hn => by
  obtain ⟨h1, h2⟩ := h.2 b o e hn
  obtain ⟨b', o', e', hlt, _⟩ := h.1.1.2 hn
  rw [e] at e'
  injection e' with e'
  injection e' with e1 _
  subst e1
  exact ⟨h1, fun j => by rw [← h2 j]; exact World.frozen?_of_block (hk b hlt (h.1.2 b o e hn))⟩
/-- A row of pairs of the call's own, all of it behind block g. -/
def AOwn (w : World) (g : Nat) (v : Value) (n : Nat) (ps : Prs) : Prop := ∃ xs, w.ownsRow (g + 1) 42 2 v n xs ∧ ps.length = n ∧ PLay (RdG w g v.ownBlock) xs ps
theorem AOwn.nil (w : World) (g : Nat) : AOwn w g (.slice none 0 0) 0 [] := ⟨[], World.ownsRow_nil _ _ _ _, rfl, PLay.nil⟩
theorem AOwn.pown {w : World} {g n : Nat} {v : Value} {ps : Prs} (h : AOwn w g v n ps) : POwn w (g + 1) v n ps := by
  obtain ⟨xs, h1, h2, h3⟩ := h
  exact ⟨xs, h1, h2, h3.mono fun _ _ _ h => h.1⟩
theorem AOwn.on {w w' : World} {g n : Nat} {v : Value} {ps : Prs} (h : AOwn w g v n ps) (hb : Below w.heap.size w w') : AOwn w' g v n ps := by
  obtain ⟨xs, h1, h2, h3⟩ := h
  exact ⟨xs, own_keep h1 hb, h2, h3.mono fun _ _ _ h => ⟨(h.1.below hb (Nat.le_refl _)).more hb.size, h.free fun b hl _ => hb.block b hl⟩⟩
/-- Block g itself turns. -/
theorem AOwn.set {w : World} {g n : Nat} {v : Value} {ps : Prs} (h : AOwn w g v n ps) (u : Value) : AOwn (w.setCell ⟨g, 0, none⟩ u) g v n ps := by
  have hk : ∀ b, b ≠ g → (w.setCell ⟨g, 0, none⟩ u).heap[b]? = w.heap[b]? := fun b hb => Below.heap_setCell w ⟨g, 0, none⟩ u b hb
  have hs : (w.setCell ⟨g, 0, none⟩ u).heap.size = w.heap.size := by simp
  obtain ⟨xs, h1, h2, h3⟩ := h
  refine ⟨xs, ⟨h1.1, ?_⟩, h2, h3.mono fun A n bs h => ⟨⟨?_, h.1.2⟩, fun b o e hn => ⟨(h.2 b o e hn).1, fun j => by rw [World.frozen?_setCell]; exact (h.2 b o e hn).2 j⟩⟩⟩
  · rcases h1.2 with h | ⟨b, cap, cur, e1, e2, e3, e4⟩
    · exact .inl h
    · exact .inr ⟨b, cap, cur, e1, e2, by rw [hk b (by omega)]; exact e3, e4⟩
  · rw [hs]
    exact h.1.1.keepG (G := fun b => g < b) (fun hn b o e => (h.2 b o e hn).1) (fun b _ hb => hk b (by omega))
/-- A pair more, at an operation of a region that draws. -/
theorem step_append_pair {ops : Array Oper} {o : Oper} {a : Act} {w : World} {K : Act → World → Prop} {Q : Exit → Act → World → Prop} {F : Prop} (hgd : o.guard = none) (s x : Operand)
    (ho : o.op = .call { callee := .builtin .append, args := #[s, x], argTypes := #[25, 25] })
    (g : Nat) (v : Value) (n : Nat) (ps : Prs) (p : List UInt8 × List UInt8) (hs : a.eval s = v) (hown : AOwn w g v n ps) (A : Option Addr) (m c : Nat) (A' : Option Addr) (m' c' : Nat)
    (hx : a.eval x = .slice (some ⟨w.heap.size, 0, none⟩) 1 1) (hc : m ≤ c) (hc' : m' ≤ c') (hk : RdG w g v.ownBlock A m p.1) (hv : RdG w g v.ownBlock A' m' p.2)
    (hn : n ≤ 1000000) (hbase : g + 1 ≤ w.heap.size)
    (h : ∀ v' w', AOwn w' g v' (n + 1) (ps ++ [p]) → Below (g + 1) w w' → K (a.put o.dst v') w') :
    if Region.wanted o (yielded ops a.tmps) = true then Oper.wp Tryd.prog o a (w.alloc (.cells #[.slice A m c, .slice A' m' c'] 42)) K Q else F := by
  have hw : Region.wanted o (yielded ops a.tmps) = true := by simp [Region.wanted, hgd]
  rw [if_pos hw]
  obtain ⟨xs, h1, h2, h3⟩ := hown
  have hr : RdV (w.alloc (.cells #[.slice A m c, .slice A' m' c'] 42)) (w.heap.size + 1) 2 (some ⟨w.heap.size, 0, none⟩) 1 [.slice A m c, .slice A' m' c'] :=
    ⟨rfl, fun _ => ⟨_, _, rfl, by omega, fun j u hu => (Whole.made w 42 #[.slice A m c, .slice A' m' c']).at_ (by rw [Nat.zero_add]; simpa using hu)⟩⟩
  obtain ⟨v', w', hrun, k2, k3, k4⟩ := run_append_rd (w.alloc (.cells #[.slice A m c, .slice A' m' c'] 42)) (g + 1) 25 o.type 42 _ 2 48 Tryd.underlying25 info44 rfl (by omega) v n xs (h1.alloc _) _ _ 1 1 _ hr
    (fun u hu => by simp only [List.mem_cons, List.not_mem_nil, or_false] at hu; rcases hu with rfl | rfl <;> rfl) (by unfold maxLen; omega) (by omega) (by rw [size_alloc]; omega)
  have hb0 : Below w.heap.size w (w.alloc (.cells #[.slice A m c, .slice A' m' c'] 42)) := (Below.refl _ _).alloc (Nat.le_refl _) _
  have hbg : Below (g + 1) w w' := (hb0.mono hbase).grown k3 (by rw [size_alloc]; omega) (fun k hk => (h1.lt k hk).1)
  unfold Oper.wp execOp
  simp only [ho, resolve, invoke, builtin, Sem.run_bind, Sem.run_pure, Result.andThen_ok, List.map_toArray, List.map_cons, List.map_nil, hs, hx, hrun]
  refine h v' w' ⟨xs ++ [.slice A m c, .slice A' m' c'], k2, by rw [List.length_append, h2]; rfl, ?_⟩ hbg
  exact (h3.snoc p A m c A' m' c' hc hc' hk hv).mono fun A n bs hx => ⟨((hx.1.below hb0 (Nat.le_refl _)).more hb0.size |>.grown k3 (Nat.le_refl _) k4).more k3.size, hx.free fun b hl hr => (k3.block b (by rw [size_alloc]; omega) (fun e => hr e.symm)).trans (hb0.block b hl)⟩

/-- How memory stands while All goes through a tree. -/
def AllAt (w0 : World) (B g : Nat) (ns : List T) (w : World) : Prop := ∃ v m, Whole w g 25 #[v] ∧ AOwn w g v m (lvs ns) ∧ Below B w0 w ∧ m ≤ ns.length
theorem zero44 : ∀ w, (zeroValue 42).run Tryd.prog w = .ok (.agg #[.slice none 0 0, .slice none 0 0]) w := (zero_of_info (P := Tryd.prog) (t := 42) (v := .agg #[.slice none 0 0, .slice none 0 0]) (n := 2) (by kernel_rfl)).1

set_option maxRecDepth 100000 in
set_option maxHeartbeats 1000000 in
theorem all1_any (w0 : World) (B g : Nat) (hBg : B ≤ g) (s : T) (b : Nat) (ns : List T) (w : World) (hl : ns.length < 100000) (h : NIn G w0 B s b) (hi : AllAt w0 B g ns w) :
    Calls Tryd.prog 42 #[ptr (some b), .pointer (some ⟨g, 0, none⟩)] w fun e w' => e = .returned undef ∧ AllAt w0 B g (ns ++ [s]) w' := by
  obtain ⟨v, m, hW, hO, hb, hm⟩ := hi
  have hN := h.below hb (Nat.le_refl _)
  have hgs := hW.lt
  cases s with
  | node l r =>
    obtain ⟨A, n, c, A', n', c', x, y, hh, hx, hy⟩ := hN
    have HI := Lib.hid (isLeaf_no hh (h_ne l r))
    have HH := Lib.hid (And.intro hW (And.intro hO hb))
    rw [ptr_some] at HI ⊢
    clear hh hx hy h hW hO hb
    go_enter Tryd.func42, Tryd.ntmps42
    go_wp2_with fail
    refine HI.out.mono ?_
    rintro e w1 ⟨rfl, rfl⟩
    go_wp2_with fail
    refine bodyPost_end (results_none rfl _ _ _) rfl ?_
    refine ⟨rfl, v, m, HH.out.1, ?_, HH.out.2.2, by rw [List.length_append]; omega⟩
    rw [lvs_append, show lvs [T.node l r] = [] from rfl, List.append_nil]
    exact HH.out.2.1
  | leaf k val =>
    obtain ⟨A, n, c, A', n', c', hh⟩ := hN
    have HI := Lib.hid (isLeaf_yes hh rfl)
    have hbB := hh.lt
    obtain ⟨c0, c1, -, -, -, -⟩ := hh.cells
    have HH := Lib.hid hh
    have HW := Lib.hid hW
    have HO := Lib.hid hO
    have HB := Lib.hid hb
    have hkle := hh.kle
    have hvle := hh.vle
    rw [ptr_some] at HI ⊢
    clear hh h hW hO hb
    go_enter Tryd.func42, Tryd.ntmps42
    go_wp2_with fail
    refine HI.out.mono ?_
    rintro e w1 ⟨rfl, rfl⟩
    go_upto_region 1 with (fail)
    have hS0 : w.drew.cell? ⟨b, 0, none⟩ = some (.slice A n c) ∧ w.drew.cell? ⟨b, 1, none⟩ = some (.slice A' n' c') ∧ w.drew.cell? ⟨g, 0, none⟩ = some v := ⟨c0, c1, HW.out.at_ rfl⟩
    refine wp_region_late (S := fun u => u.cell? ⟨b, 0, none⟩ = some (.slice A n c) ∧ u.cell? ⟨b, 1, none⟩ = some (.slice A' n' c') ∧ u.cell? ⟨g, 0, none⟩ = some v) (late := (· == 16)) (by kernel_rfl) ?_
    have hHeld := hS0
    refine wpLate_take (i := 0) (oi := { dst := some 5, op := Op.load 25 (Operand.tmp 1), type := 25, pos := "tree.go:114", after := #[], guard := none }) (v := ?_) rfl (by kernel_rfl) (by kernel_rfl) (by kernel_rfl) (by kernel_rfl) (fun _ _ _ h => h) (Or.inl ⟨by rfl, ?_⟩) (by assumption) ?_
    rotate_left
    · first | (intro w hSw; (try dsimp only at hSw); go_simp; done) | (intro w hSw; (try dsimp only at hSw); go_simp; with_reducible rfl)
    simp only [Act.put, List.setIfInBounds_toArray, List.set_cons_zero, List.set_cons_succ]
    refine wpLate_take (i := 1) (oi := { dst := some 6, op := Op.move (Operand.tmp 0), type := 79, pos := "tree.go:114", after := #[], guard := none }) (v := ?_) rfl (by kernel_rfl) (by kernel_rfl) (by kernel_rfl) (by kernel_rfl) (fun _ _ _ h => h) (Or.inl ⟨by rfl, ?_⟩) (by assumption) ?_
    rotate_left
    · first | (intro w hSw; (try dsimp only at hSw); go_simp; done) | (intro w hSw; (try dsimp only at hSw); go_simp; with_reducible rfl)
    simp only [Act.put, List.setIfInBounds_toArray, List.set_cons_zero, List.set_cons_succ]
    refine wpLate_take (i := 2) (oi := { dst := some 7, op := Op.nilCheck (Operand.tmp 6), type := 0, pos := "tree.go:114", after := #[{ on := 1, ground := Ground.data }], guard := none }) (v := ?_) rfl (by kernel_rfl) (by kernel_rfl) (by kernel_rfl) (by kernel_rfl) (fun _ _ _ h => h) (Or.inl ⟨by rfl, ?_⟩) (by assumption) ?_
    rotate_left
    · first | (intro w hSw; (try dsimp only at hSw); go_simp; done) | (intro w hSw; (try dsimp only at hSw); go_simp; with_reducible rfl)
    simp only [Act.put, List.setIfInBounds_toArray, List.set_cons_zero, List.set_cons_succ]
    refine wpLate_take (i := 3) (oi := { dst := some 8, op := Op.fieldAddr 82 (Operand.tmp 7) 0, type := 0, pos := "tree.go:114", after := #[{ on := 2, ground := Ground.data }], guard := none }) (v := ?_) rfl (by kernel_rfl) (by kernel_rfl) (by kernel_rfl) (by kernel_rfl) (fun _ _ _ h => h) (Or.inl ⟨by rfl, ?_⟩) (by assumption) ?_
    rotate_left
    · first | (intro w hSw; (try dsimp only at hSw); go_simp; done) | (intro w hSw; (try dsimp only at hSw); go_simp; with_reducible rfl)
    simp only [Act.put, List.setIfInBounds_toArray, List.set_cons_zero, List.set_cons_succ]
    refine wpLate_take (i := 4) (oi := { dst := some 9, op := Op.fieldAddr 47 (Operand.tmp 8) 0, type := 0, pos := "tree.go:114", after := #[{ on := 3, ground := Ground.data }], guard := none }) (v := ?_) rfl (by kernel_rfl) (by kernel_rfl) (by kernel_rfl) (by kernel_rfl) (fun _ _ _ h => h) (Or.inl ⟨by rfl, ?_⟩) (by assumption) ?_
    rotate_left
    · first | (intro w hSw; (try dsimp only at hSw); go_simp; done) | (intro w hSw; (try dsimp only at hSw); go_simp; with_reducible rfl)
    simp only [Act.put, List.setIfInBounds_toArray, List.set_cons_zero, List.set_cons_succ]
    refine wpLate_take (i := 5) (oi := { dst := some 10, op := Op.load 31 (Operand.tmp 9), type := 31, pos := "tree.go:114", after := #[{ on := 4, ground := Ground.data }], guard := none }) (v := ?_) rfl (by kernel_rfl) (by kernel_rfl) (by kernel_rfl) (by kernel_rfl) (fun _ _ _ h => h) (Or.inl ⟨by rfl, ?_⟩) (by assumption) ?_
    rotate_left
    · first | (intro w hSw; (try dsimp only at hSw); go_simp; done) | (intro w hSw; (try dsimp only at hSw); go_simp; with_reducible rfl)
    simp only [Act.put, List.setIfInBounds_toArray, List.set_cons_zero, List.set_cons_succ]
    refine wpLate_take (i := 7) (oi := { dst := some 12, op := Op.move (Operand.tmp 0), type := 79, pos := "tree.go:114", after := #[], guard := none }) (v := ?_) rfl (by kernel_rfl) (by kernel_rfl) (by kernel_rfl) (by kernel_rfl) (fun _ _ _ h => h) (Or.inl ⟨by rfl, ?_⟩) (by assumption) ?_
    rotate_left
    · first | (intro w hSw; (try dsimp only at hSw); go_simp; done) | (intro w hSw; (try dsimp only at hSw); go_simp; with_reducible rfl)
    simp only [Act.put, List.setIfInBounds_toArray, List.set_cons_zero, List.set_cons_succ]
    refine wpLate_take (i := 8) (oi := { dst := some 13, op := Op.nilCheck (Operand.tmp 12), type := 0, pos := "tree.go:114", after := #[{ on := 7, ground := Ground.data }], guard := none }) (v := ?_) rfl (by kernel_rfl) (by kernel_rfl) (by kernel_rfl) (by kernel_rfl) (fun _ _ _ h => h) (Or.inl ⟨by rfl, ?_⟩) (by assumption) ?_
    rotate_left
    · first | (intro w hSw; (try dsimp only at hSw); go_simp; done) | (intro w hSw; (try dsimp only at hSw); go_simp; with_reducible rfl)
    simp only [Act.put, List.setIfInBounds_toArray, List.set_cons_zero, List.set_cons_succ]
    refine wpLate_take (i := 9) (oi := { dst := some 14, op := Op.fieldAddr 82 (Operand.tmp 13) 0, type := 0, pos := "tree.go:114", after := #[{ on := 8, ground := Ground.data }], guard := none }) (v := ?_) rfl (by kernel_rfl) (by kernel_rfl) (by kernel_rfl) (by kernel_rfl) (fun _ _ _ h => h) (Or.inl ⟨by rfl, ?_⟩) (by assumption) ?_
    rotate_left
    · first | (intro w hSw; (try dsimp only at hSw); go_simp; done) | (intro w hSw; (try dsimp only at hSw); go_simp; with_reducible rfl)
    simp only [Act.put, List.setIfInBounds_toArray, List.set_cons_zero, List.set_cons_succ]
    refine wpLate_take (i := 10) (oi := { dst := some 15, op := Op.fieldAddr 47 (Operand.tmp 14) 1, type := 0, pos := "tree.go:114", after := #[{ on := 9, ground := Ground.data }], guard := none }) (v := ?_) rfl (by kernel_rfl) (by kernel_rfl) (by kernel_rfl) (by kernel_rfl) (fun _ _ _ h => h) (Or.inl ⟨by rfl, ?_⟩) (by assumption) ?_
    rotate_left
    · first | (intro w hSw; (try dsimp only at hSw); go_simp; done) | (intro w hSw; (try dsimp only at hSw); go_simp; with_reducible rfl)
    simp only [Act.put, List.setIfInBounds_toArray, List.set_cons_zero, List.set_cons_succ]
    refine wpLate_take (i := 11) (oi := { dst := some 16, op := Op.load 31 (Operand.tmp 15), type := 31, pos := "tree.go:114", after := #[{ on := 10, ground := Ground.data }], guard := none }) (v := ?_) rfl (by kernel_rfl) (by kernel_rfl) (by kernel_rfl) (by kernel_rfl) (fun _ _ _ h => h) (Or.inl ⟨by rfl, ?_⟩) (by assumption) ?_
    rotate_left
    · first | (intro w hSw; (try dsimp only at hSw); go_simp; done) | (intro w hSw; (try dsimp only at hSw); go_simp; with_reducible rfl)
    simp only [Act.put, List.setIfInBounds_toArray, List.set_cons_zero, List.set_cons_succ]
    clear c0 c1 hHeld hS0 HI
    have HW1 : Hid (Whole w.drew g 25 #[v]) := Lib.hid HW.out
    have HO1 : Hid (AOwn w.drew g v m (lvs ns)) := Lib.hid HO.out
    have HB1 := Lib.hid HB.out.drew
    have HK1 : Hid (Rd w.drew B A n k) := Lib.hid HH.out.key
    have HV1 : Hid (Rd w.drew B A' n' val) := Lib.hid HH.out.val
    have HC1' : Hid (w.drew.cell? ⟨b, 0, none⟩ = some (.slice A n c) ∧ w.drew.cell? ⟨b, 1, none⟩ = some (.slice A' n' c')) := Lib.hid ⟨HH.out.cells.1, HH.out.cells.2.1⟩
    have hgs1 : g < w.drew.heap.size := hgs
    clear HW HO HB HH hgs
    generalize w.drew = w1 at *
    have hcell : ∀ u, Below w1.heap.size w1 u → u.cell? ⟨b, 0, none⟩ = some (.slice A n c) ∧ u.cell? ⟨b, 1, none⟩ = some (.slice A' n' c') ∧ u.cell? ⟨g, 0, none⟩ = some v := fun u hu =>
      ⟨(hu.cell (p := ⟨b, 0, none⟩) (by show b < _; omega)).trans HC1'.out.1, (hu.cell (p := ⟨b, 1, none⟩) (by show b < _; omega)).trans HC1'.out.2, (hu.cell (p := ⟨g, 0, none⟩) hgs1).trans (HW1.out.at_ rfl)⟩
    have HCELL := Lib.hid hcell
    clear hcell
    have HCA := Lib.hid (clone_new A n c k w1 (HK1.out.more (by omega)) (by omega))
    refine wpLate_ready (rs := [6]) (by kernel_rfl) (by simp) ?_
    refine AllLate.cons rfl (fun K hK => ?_) AllLate.nil
    go_simp
    refine HCA.out.mono ?_
    rintro e w2 ⟨A2, n2, c2, rfl, hr2, hnc2, hnew2, hb2⟩
    have hs2 := hb2.size
    have HR2 := Lib.hid hr2
    have HNW2 : Hid (Fresh w1.heap.size w2 A2) := Lib.hid hnew2
    have HB2 := Lib.hid hb2
    refine hK.out _ _ (fun _ => HCELL.out w2 hb2) ?_
    clear hK K HCA hr2 hnew2 hb2
    have HCB := Lib.hid (clone_new A' n' c' val w2 ((HV1.out.below HB2.out (by omega)).more (by omega)) (by omega))
    refine wpLate_ready (rs := [12]) (by kernel_rfl) (by simp) ?_
    refine AllLate.cons rfl (fun K hK => ?_) AllLate.nil
    go_simp
    refine HCB.out.mono ?_
    rintro e w3 ⟨A3, n3, c3, rfl, hr3, hnc3, hnew3, hb3⟩
    have hs3 := hb3.size
    have hs3' : w1.heap.size ≤ w3.heap.size := Nat.le_trans hs2 hs3
    have HB3 := Lib.hid (HB2.out.trans (hb3.mono hs2))
    have HR23 := Lib.hid ((HR2.out.below hb3 (Nat.le_refl _)).more hs3)
    have HR3 := Lib.hid hr3
    have HNW3 : Hid (Fresh w1.heap.size w3 A3) := Lib.hid (hnew3.less hs2)
    have HNW2 := Lib.hid (HNW2.out.below hb3 (Nat.le_refl _))
    have hHeld := HCELL.out w3 HB3.out
    refine hK.out _ _ (fun _ => hHeld) ?_
    clear hK K HCB hr3 hnew3 hb3 HR2 HB2
    have hz44 := zero44
    refine wpLate_take (i := 13) (oi := { dst := some 18, op := Op.build 42 #[(0, Operand.tmp 11), (1, Operand.tmp 17)], type := 42, pos := "tree.go:114", after := #[{ on := 6, ground := Ground.data }, { on := 12, ground := Ground.data }], guard := none }) (v := ?_) rfl (by kernel_rfl) (by kernel_rfl) (by kernel_rfl) (by kernel_rfl) (fun _ _ _ h => h) (Or.inl ⟨by rfl, ?_⟩) (by assumption) ?_
    rotate_left
    · first | (intro w hSw; (try dsimp only at hSw); go_simp; done) | (intro w hSw; (try dsimp only at hSw); go_simp; with_reducible rfl)
    simp only [Act.put, List.setIfInBounds_toArray, List.set_cons_zero, List.set_cons_succ]
    clear hHeld hz44
    refine wpLate_ready (rs := [14]) (by kernel_rfl) (by simp) ?_
    refine AllLate.cons rfl (fun K hK => ?_) AllLate.nil
    go_simp
    have hb4 : Below w3.heap.size w3 (w3.alloc (.cells #[.slice A2 n2 c2, .slice A3 n3 c3] 42)) := (Below.refl _ _).alloc (Nat.le_refl _) _
    refine hK.out _ _ (fun _ => HCELL.out _ (HB3.out.trans (hb4.mono hs3'))) ?_
    clear hK K hb4
    have HO3 := Lib.hid (HO1.out.on HB3.out)
    have hnb : ∀ b, v.ownBlock = some b → b < w1.heap.size := fun b hb => by obtain ⟨xs, h1, _⟩ := HO1.out; exact (h1.lt b hb).2
    have hg2 : RdG w3 g v.ownBlock A2 n2 k := ⟨⟨HR23.out, fun b o e _ h => by have h1 := hnb b h; have h2 := HNW2.out b o e; omega⟩, fun b o e _ => by have h2 := HNW2.out b o e; exact ⟨by omega, h2.2.2⟩⟩
    have hg3 : RdG w3 g v.ownBlock A3 n3 val := ⟨⟨HR3.out, fun b o e _ h => by have h1 := hnb b h; have h2 := HNW3.out b o e; omega⟩, fun b o e _ => by have h2 := HNW3.out b o e; exact ⟨by omega, h2.2.2⟩⟩
    refine wpLate_ready (rs := [15]) (by kernel_rfl) (by simp) ?_
    refine AllLate.cons (o := { dst := some 20, op := Op.call { callee := Callee.builtin Builtin.append, args := #[Operand.tmp 5, Operand.tmp 19], argTypes := #[25, 25] }, type := 25, pos := "tree.go:114", after := #[{ on := 0, ground := Ground.data }, { on := 14, ground := Ground.data }, { on := 12, ground := Ground.chain }], guard := none }) rfl (fun K hK => ?_) AllLate.nil
    refine step_append_pair rfl (.tmp 5) (.tmp 19) rfl g v m _ (k, val) rfl HO3.out A2 n2 c2 A3 n3 c3 rfl hnc2 hnc3 hg2 hg3 (by omega) (by omega) ?_
    intro v5 w5 hO5 hb5
    obtain ⟨A5, c5, rfl, hc5, _⟩ := hO5.pown.form
    have hd3 := HCELL.out w3 HB3.out
    have hd5 : w5.cell? ⟨b, 0, none⟩ = some (.slice A n c) ∧ w5.cell? ⟨b, 1, none⟩ = some (.slice A' n' c') ∧ w5.cell? ⟨g, 0, none⟩ = some v :=
      ⟨(hb5.cell (p := ⟨b, 0, none⟩) (by show b < _; omega)).trans hd3.1, (hb5.cell (p := ⟨b, 1, none⟩) (by show b < _; omega)).trans hd3.2.1, (hb5.cell (p := ⟨g, 0, none⟩) (by show g < _; omega)).trans hd3.2.2⟩
    have HW5 := Lib.hid ((HW1.out.below HB3.out hgs1).below hb5 (by omega))
    have HB5 := Lib.hid ((HB1.out.trans (HB3.out.mono (by omega))).trans (hb5.mono (by omega)))
    have HO5 := Lib.hid hO5
    refine hK.out _ _ (fun _ => hd5) ?_
    clear hK K hO5 hb5 hd3 HO3 HO1 HW1 HB1 HB3 HCELL hnb hg2 hg3 HR23 HR3 HK1 HV1 HC1'
    simp only [Act.put, List.setIfInBounds_toArray, List.set_cons_zero, List.set_cons_succ]
    have f0 := HW5.out.free 0
    obtain ⟨-, -, k0⟩ := hd5
    refine wpLate_ready (rs := [16]) (by kernel_rfl) (by simp) ?_
    refine AllLate.cons rfl (fun K hK => ?_) AllLate.nil
    go_simp
    refine hK.out _ _ (fun h => absurd h (by decide)) ?_
    clear hK K f0 k0
    have HW6 := Lib.hid (HW5.out.set 0 (.slice A5 (m + 1) c5))
    have HO6 := Lib.hid (HO5.out.set (.slice A5 (m + 1) c5))
    have HB6 := Lib.hid (HB5.out.setCell (p := ⟨g, 0, none⟩) hBg (.slice A5 (m + 1) c5))
    generalize w5.setCell ⟨g, 0, none⟩ (.slice A5 (m + 1) c5) = w6 at *
    refine wpLate_done (by kernel_rfl) ?_ _
    go_wp2_with fail
    refine bodyPost_end (results_none rfl _ _ _) rfl ?_
    refine ⟨rfl, _, m + 1, HW6.out, ?_, HB6.out, by rw [List.length_append, List.length_singleton]; omega⟩
    rw [lvs_append]
    exact HO6.out

def AllPost (ps : Prs) (w : World) (e : Ending) (w' : World) : Prop := ∃ v n, e = .returned v ∧ AOwn w' w.heap.size v n ps ∧ Below w.heap.size w w'
theorem AllPost.pairs {ps : Prs} {w : World} {e : Ending} {w' : World} (h : AllPost ps w e w') : ∃ A n c, e = .returned (.slice A n c) ∧ PRd w' w'.heap.size A n ps ∧ n ≤ c ∧ (A = none → c = 0) ∧ Below w.heap.size w w' := by
  obtain ⟨v, n, rfl, hO, hb⟩ := h
  obtain ⟨A, c, rfl, hc, hA⟩ := hO.pown.form
  exact ⟨A, n, c, rfl, hO.pown.rd, hc, hA, hb⟩

set_option maxRecDepth 100000 in
set_option maxHeartbeats 1000000 in
theorem all_any (o : Option T) (g0 : Nat) (w : World) (ho : TIn G w w.heap.size o g0) (hn : oln o ≤ 1000) : Calls Tryd.prog 12 #[ptr (some g0)] w (AllPost (optLeaves o) w) := by
  have hmf : ∀ (fn : Fn) (first cap : Array Value) (w : World), (Instr.makeFunc fn first cap).run Tryd.prog w = .ok (.func fn first cap) w := fun _ _ _ _ => rfl
  have hb0 : Below w.heap.size w (w.alloc (.cells #[.slice none 0 0] 25)) := (Below.refl _ _).alloc (Nat.le_refl _) _
  have hw0 := Whole.made w 25 #[.slice none 0 0]
  have HU := Lib.hid (upmost_any (some o) (some g0) w.heap.size (w.alloc (.cells #[.slice none 0 0] 25)) ⟨g0, rfl, ho.below hb0 (Nat.le_refl _)⟩)
  have HW0 := Lib.hid hw0
  have HB0 := Lib.hid hb0
  clear hb0 hw0 ho
  go_enter Tryd.func12, Tryd.ntmps12
  go_wp2_with fail
  refine HU.out.mono ?_
  rintro e w1' ⟨p, rfl, hp, rfl⟩
  generalize w.alloc (.cells #[.slice none 0 0] 25) = w1 at *
  clear HU
  rw [show topOf (some o) = o from rfl] at hp
  cases o with
  | none =>
    obtain rfl := hp
    have HV := Lib.hid (visit_nil (.func (.func 42) #[] #[.pointer (some ⟨w.heap.size, 0, none⟩)]) w1)
    have k0 := HW0.out.at_ (i := 0) rfl
    rw [ptr_none]
    go_wp2_with fail
    refine HV.out.mono ?_
    rintro e w2 ⟨rfl, rfl⟩
    go_wp2_with fail
    go_ret
    exact ⟨_, 0, rfl, AOwn.nil _ _, HB0.out⟩
  | some t =>
    obtain ⟨b, rfl, hN⟩ := hp
    have HV := Lib.hid (visit_upto 100000 42 (.pointer (some ⟨w.heap.size, 0, none⟩)) (fun args w => by simp [go_sem]) w1 w.heap.size (AllAt w1 w.heap.size w.heap.size) (fun ns u h => by obtain ⟨_, _, _, _, h, _⟩ := h; exact h) (fun s b ns u hl hs hi => all1_any w1 w.heap.size w.heap.size (Nat.le_refl _) s b ns u hl hs hi) t b [] w1 (by have h1 := all_len t; change t.n ≤ 1000 at hn; rw [List.length_nil]; omega) hN ⟨_, 0, HW0.out, AOwn.nil _ _, Below.refl _ _, Nat.le_refl _⟩)
    rw [ptr_some] at HV ⊢
    clear hN hn
    go_wp2_with fail
    refine HV.out.mono ?_
    rintro e w2 ⟨rfl, v, m, hW2, hO2, hb2, _⟩
    have k0 := hW2.at_ (i := 0) rfl
    rw [List.nil_append, lvs_all] at hO2
    have HO2 := Lib.hid hO2
    have HB2 := Lib.hid (HB0.out.trans hb2)
    clear hW2 hO2 hb2 HV
    go_wp2_with fail
    go_ret
    exact ⟨v, m, rfl, HO2.out, HB2.out⟩
end Go.Proofs.YtolkpjbbfopmnaaDoor
